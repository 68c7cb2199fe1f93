/- Things to do in memory; what the function long tells; what a step does to a heap; rows that the law HeapMoves keeps. -/
import Derived.Test.YtgfjfpfhalblgaaHMg
import Derived.Test.YtgfjfpfhalblgaaHRo
namespace Go.Proofs.Ytgfjfpfhalblgaa
set_option maxRecDepth 1000000
open Go.ChangeShapes Go.WideShapes Go.ChangeAt Go.RowKit

theorem Try.bytes31 : Try.prog.bytesOf 31 = 48 := by kernel_rfl
theorem Try.info29 : (Try.prog.info? 29).map (fun i => (i.zero, i.size, i.bytes)) = some (some (.slice none 0 0), 1, 24) := by kernel_rfl
/-- Things to do that came in: not longer than memory. -/
theorem open_dosz {H : Type} {enc : TypeId × Value → H} {W : World} {base : Nat} {v : Value} {d : DataW H} {ps : List MemPlace} (hok : Value.okWide Try.prog W .any base 22 v)
    (h : DataW.Trod enc Try.prog W 0 (fun _ => true) true 22 v d ps) (hd : ∀ x ∈ d.weights Try.prog 22, x ≤ reachBytes) : ∃ L, Dos W v L ∧ L.length ≤ 2999999999999 := by
  have er : reachBytes = 140737488351232 := rfl
  obtain ⟨L, hL⟩ := open_dos hok h
  refine ⟨L, hL, ?_⟩
  obtain ⟨a0, len, cap, rfl⟩ := okWide_slice Try.underlying22 hok
  obtain ⟨_, _, e, _⟩ := hL
  injection e with _ e2 _
  rw [← e2]
  obtain ⟨fuel, hf⟩ := h
  rcases Deep.open_slice Try.underlying22 hf with ⟨hcs, _⟩ | ⟨a, len', cap', m, n, D, Pl, hcs, _, hl, hm, hmm, hxx, hi⟩
  · simp [Value.cells] at hcs
    omega
  · simp [Value.cells] at hcs
    obtain ⟨rfl, rfl, rfl⟩ := hcs
    simp only [if_true] at hmm
    subst hmm
    have hdd : d = .slice ((List.range len).map D) ((List.range (m - len)).map fun j => D (len + j)) := congrArg Prod.fst hxx
    have hw : d.weights Try.prog 22 = (((List.range len).map D).length + ((List.range (m - len)).map fun j => D (len + j)).length) * Try.prog.bytesOf 31 :: (DataW.weightsAll Try.prog 31 ((List.range len).map D) ++ DataW.weightsAll Try.prog 31 ((List.range (m - len)).map fun j => D (len + j))) := by
      rw [hdd]
      simp only [DataW.weights, Try.underlying22]
    have := hd _ (by rw [hw]; exact List.mem_cons_self)
    rw [Try.bytes31] at this
    simp at this
    omega

/-- A thing to do, in later worlds. -/
theorem Dos.at_ {W : World} {v : Value} {L : List Todo} {k : Nat} (h : Dos W v L) (hk : k < L.length) :
    ∃ b off c u, v = .slice (some ⟨b, off, none⟩) L.length c ∧ (Lit.int .i64 L[k].q).wf = true ∧ (Lit.int .i64 L[k].k).wf = true ∧ (Lit.int .i64 L[k].i).wf = true ∧ L[k].ws.length ≤ maxLen ∧
      ∀ w', Below W.heap.size W w' → w'.cell? ⟨b, off + k * 4, none⟩ = some (.int .i64 L[k].q) ∧ w'.cell? ⟨b, off + k * 4 + 1, none⟩ = some (.int .i64 L[k].k) ∧ w'.cell? ⟨b, off + k * 4 + 2, none⟩ = some (.int .i64 L[k].i) ∧ w'.cell? ⟨b, off + k * 4 + 3, none⟩ = some u ∧ Ints (· < W.heap.size) w' u L[k].ws := by
  obtain ⟨a, c, rfl, _, hw, h⟩ := h
  obtain ⟨b, off, rfl, hz⟩ := h.resolve_left (by omega)
  obtain ⟨g1, g2, g3, g4⟩ := hw L[k] (List.getElem_mem hk)
  obtain ⟨u, hu, c0, c1, c2, c3⟩ := hz k _ (List.getElem?_eq_getElem hk)
  have hl : b < W.heap.size := World.block_lt_of_cell? _ _ c0
  exact ⟨b, off, c, u, rfl, g1, g2, g3, g4, fun w' hb => ⟨(hb.cell (p := ⟨b, _, none⟩) hl).trans c0, (hb.cell (p := ⟨b, _, none⟩) hl).trans c1, (hb.cell (p := ⟨b, _, none⟩) hl).trans c2, (hb.cell (p := ⟨b, _, none⟩) hl).trans c3,
    Vals.only hu (Only.of_below (F := fun _ => False) hb) (fun _ _ h => h)⟩⟩
def LongPost (w : World) (e : Ending) (w' : World) : Prop := ∃ b, e = .returned (.bool b) ∧ ∃ d, w' = w.drewN d
theorem long_any (v : Value) (L : List Todo) (w : World) (h : Dos w v L) : Calls Try.prog 8 #[v] w (LongPost w) := by
  have HV := Lib.hid h
  obtain ⟨a, c, rfl, hl, _⟩ := h
  unfold maxLen at hl
  go_enter Try.func8, Try.ntmps8
  go_wp2
  go_loopw [3, 4] (fun z i wr => ∃ (k : Nat) (y : Int) (d : Nat), k ≤ L.length ∧ i = .int .i64 k ∧ z = .int .i64 y ∧ wr = w.drewN d) (fun _ i _ => L.length - (intOf i).toNat)
  case atStart => exact ⟨0, 0, 0, Nat.zero_le _, rfl, rfl, rfl⟩
  case round =>
    obtain ⟨k, y, d, hk, rfl, rfl, hw⟩ := hrel
    have HW := Lib.hid hw
    by_cases hlt : k < L.length
    · obtain ⟨b, off, c', u, he, _, _, _, _, hat⟩ := HV.out.at_ hlt
      obtain ⟨_, _, _, h4, h5⟩ := hat wr (by rw [hw]; exact below_drewN (Below.refl _ _) _)
      obtain ⟨au, cu, rfl, _⟩ := h5
      injection he with e1 e2 e3
      subst e1 e3
      clear hat e2 hw
      rw [List.length_map] at h4
      generalize L[k].ws.length = q at *
      go_wp2
      first | done | (go_quiet (fail); go_wp2) | skip
      go_roundw
      case rel => exact ⟨k + 1, _, d, by omega, by go_num, rfl, by rw [HW.out]⟩
      case measure => simp [intOf]; omega
    · clear hw
      go_wp2
      go_ret
      exact ⟨_, rfl, d, HW.out⟩

section
variable {w w' : World} {c : Hp} {v : Value} {n : Nat} {B : List (Option Bk)}
theorem free_any (k : Int) (h : HeapAt w c v n B) : ∃ (t : Int) (B' : List (Option Bk)), B'.length = B.length ∧ Calls Try.prog 12 #[.pointer (some ⟨c.h, 0, none⟩), .int .i64 k] w (HeapPost (.int .i64 t) c v n B' w) := by
  cases hb : lookI B k with
  | none => exact ⟨4, B, rfl, free_none k h hb⟩
  | some b =>
    by_cases h0 : k < 0
    · rw [lookI_neg h0] at hb; cases hb
    · obtain ⟨k, rfl⟩ := Int.eq_ofNat_of_zero_le (by omega : 0 ≤ k)
      rw [lookI_nat] at hb
      exact ⟨0, B.set k none, List.length_set, free_some k b h hb⟩
theorem write_any {N : Nat → Prop} (k i : Int) (u : Value) (ws : List Int) (h : HeapAt w c v n B) (hu : Ints N w u ws) (hl : ws.length ≤ 9223372036854775807) :
    ∃ (t : Int) (B' : List (Option Bk)), B'.length = B.length ∧ Calls Try.prog 13 #[.pointer (some ⟨c.h, 0, none⟩), .int .i64 k, .int .i64 i, u] w (HeapPost (.int .i64 t) c v n B' w) := by
  by_cases hf : fitsW B k i ws.length
  · obtain ⟨b, hb, h0, h1⟩ := hf
    by_cases hk : k < 0
    · rw [lookI_neg hk] at hb; cases hb
    · obtain ⟨k, rfl⟩ := Int.eq_ofNat_of_zero_le (by omega : 0 ≤ k)
      obtain ⟨i, rfl⟩ := Int.eq_ofNat_of_zero_le h0
      rw [lookI_nat] at hb
      cases hw : ws.any badW with
      | true => exact ⟨2, B, rfl, write_bad k i b u ws h hu hb (by omega) hw⟩
      | false => exact ⟨0, B.set k (some ⟨b.a, overL b.ws i ws⟩), List.length_set, write_yes k i b u ws h hu hb (by omega) hw⟩
  · exact ⟨4, B, rfl, write_none k i u ws h hu hl hf⟩
theorem alloc_some (q : Int) (h : HeapAt w c v n B) (hfew : B.length < 3000000000000) (hq : q ≤ 9223372036854775807) :
    ∃ (u : Value) (B' : List (Option Bk)), B'.length ≤ B.length + 1 ∧ Calls Try.prog 11 #[.pointer (some ⟨c.h, 0, none⟩), .int .i64 q] w (HeapPost u c v n B' w) := by
  obtain ⟨id, t, B', ha, hc⟩ := alloc_any q h hfew hq
  refine ⟨_, B', ?_, hc⟩
  rcases ha with ⟨_, _, _, rfl⟩ | ⟨_, _, ok, _, _, _, _, rfl⟩
  · omega
  · cases ok with
    | false => rw [if_neg (by simp)]; omega
    | true => rw [if_pos rfl, putB_len]; split <;> omega
end

/-! What the law keeps: the numbers, the words, the places. -/
def KeepN (b0 : Nat) (wv av : Value) (b : Nat) : Prop := b0 ≤ b ∧ wv.ownBlock ≠ some b ∧ av.ownBlock ≠ some b
/-- us: the words of the first blocks of l; the places of the first j of them. -/
structure Kept (w : World) (b0 : Nat) (B : List (Option Bk)) (l : List Nat) (us : List Value) (j : Nat) (wv av : Value) : Prop where
  rows : w.ownsRow b0 29 1 wv us.length us
  each : ∀ i u, us[i]? = some u → Ints (KeepN b0 wv av) w u (wordsB B (l.getD i 0))
  pls : w.ownsRow b0 3 1 av j ((l.take j).map fun k => .int .i64 (spA (look B k)))
  apart : ∀ b, wv.ownBlock = some b → av.ownBlock ≠ some b
section
variable {w w' : World} {b0 : Nat} {B : List (Option Bk)} {l : List Nat} {us : List Value} {j : Nat} {wv av : Value}
theorem kept_nil (w : World) (b0 : Nat) (B : List (Option Bk)) (l : List Nat) : Kept w b0 B l [] 0 (.slice none 0 0) (.slice none 0 0) :=
  ⟨World.ownsRow_nil _ _ _ _, fun i u h => by simp at h, World.ownsRow_nil _ _ _ _, fun b h => by cases h⟩
theorem Kept.fresh (h : Kept w b0 B l us j wv av) (b : Below w.heap.size w w') : Kept w' b0 B l us j wv av :=
  ⟨own_fresh h.rows b, fun i u hu => ints_kept (h.each i u hu) b, own_fresh h.pls b, h.apart⟩
theorem Kept.was {u wv' : Value} (h : Kept w b0 B l us j wv av) (hu : Ints (KeepN b0 wv av) w u (wordsB B (l.getD us.length 0))) (own : w'.ownsRow b0 29 1 wv' (us.length + 1) (us ++ [u])) (hg : w.grownBy w' wv.ownBlock)
    (hat : wv'.ownBlock = wv.ownBlock ∨ wv'.ownBlock = some w.heap.size) : Kept w' b0 B l (us ++ [u]) j wv' av := by
  have on : Only (fun b => wv.ownBlock = some b) w w' := Only.grown (Only.refl _ _) hg (fun k hk => .inl hk)
  have key : ∀ {x : Value} {ws : List Int}, Ints (KeepN b0 wv av) w x ws → Ints (KeepN b0 wv' av) w' x ws := fun {x ws} hx => by
    refine Vals.kind (Vals.only (Vals.kind hx (M := fun b => KeepN b0 wv av b ∧ b < w.heap.size) (fun b hb h => ⟨h, hb⟩)) on (fun b hb e => hb.1.2.1 e)) (fun b _ hb => ⟨hb.1.1, fun e => ?_, hb.1.2.2⟩)
    rcases hat with h | h
    · rw [h] at e; exact hb.1.2.1 e
    · rw [h] at e; injection e with e; have := hb.2; omega
  refine ⟨by rw [List.length_append]; exact own, fun i x hx => ?_, own_only2 h.pls on (fun b hb e => h.apart b e hb), fun b hb => ?_⟩
  · rcases Nat.lt_or_ge i us.length with hi | hi
    · rw [List.getElem?_append_left hi] at hx
      exact key (h.each i x hx)
    · rw [List.getElem?_append_right hi] at hx
      have hi2 : i = us.length := by
        rcases Nat.lt_or_ge (i - us.length) 1 with h | h
        · omega
        · rw [List.getElem?_eq_none (by simpa using h)] at hx; cases hx
      subst hi2
      simp at hx
      subst hx
      exact key hu
  · rcases hat with e | e
    · rw [e] at hb; exact h.apart b hb
    · rw [e] at hb
      injection hb with hb
      intro h2
      have := (h.pls.lt b h2).2
      omega
theorem Kept.at_ {av' : Value} {k : Nat} (h : Kept w b0 B l us j wv av) (hk : l[j]? = some k) (own : w'.ownsRow b0 3 1 av' (j + 1) (((l.take j).map fun k => .int .i64 (spA (look B k))) ++ [.int .i64 (spA (look B k))])) (hg : w.grownBy w' av.ownBlock)
    (hat : av'.ownBlock = av.ownBlock ∨ av'.ownBlock = some w.heap.size) : Kept w' b0 B l us (j + 1) wv av' := by
  have on : Only (fun b => av.ownBlock = some b) w w' := Only.grown (Only.refl _ _) hg (fun k hk => .inl hk)
  refine ⟨own_only2 h.rows on (fun b hb e => h.apart b hb e), fun i x hx => ?_, ?_, fun b hb => ?_⟩
  · refine Vals.kind (Vals.only (Vals.kind (h.each i x hx) (M := fun b => KeepN b0 wv av b ∧ b < w.heap.size) (fun b hb h => ⟨h, hb⟩)) on (fun b hb e => hb.1.2.2 e)) (fun b _ hb => ⟨hb.1.1, hb.1.2.1, fun e => ?_⟩)
    rcases hat with h | h
    · rw [h] at e; exact hb.1.2.2 e
    · rw [h] at e; injection e with e; have := hb.2; omega
  · have e : l.take (j + 1) = l.take j ++ [k] := by
      obtain ⟨hj, he⟩ := List.getElem?_eq_some_iff.1 hk
      rw [List.take_succ_eq_append_getElem hj, he]
    rw [e, List.map_append]
    exact own
  · intro e
    rcases hat with e2 | e2
    · rw [e2] at e; exact h.apart b hb e
    · rw [e2] at e
      injection e with e
      have := (h.rows.lt b hb).2
      omega
end
/-- All of it, as it is read later. -/
structure Seen (w : World) (b0 : Nat) (B : List (Option Bk)) (l : List Nat) (iv wv av : Value) : Prop where
  ids : Ints (b0 ≤ ·) w iv (l.map fun (k : Nat) => (k : Int))
  was : ∃ us, us.length = l.length ∧ Vals (b0 ≤ ·) w wv us ∧ ∀ i u, us[i]? = some u → Ints (b0 ≤ ·) w u (wordsB B (l.getD i 0))
  pls : Ints (b0 ≤ ·) w av (l.map fun k => spA (look B k))
theorem Kept.seen {w : World} {b0 : Nat} {B : List (Option Bk)} {l : List Nat} {us : List Value} {iv wv av : Value} (h : Kept w b0 B l us l.length wv av) (hu : us.length = l.length) (hi : w.ownsRow b0 3 1 iv l.length (valsN l)) : Seen w b0 B l iv wv av := by
  refine ⟨?_, ⟨us, hu, Vals.of_own h.rows, fun i u hx => Vals.kind (h.each i u hx) fun b _ hb => hb.1⟩, ?_⟩
  · have e : (l.map fun (k : Nat) => (k : Int)).map (Value.int .i64) = valsN l := by rw [List.map_map]; rfl
    rw [Ints, e]
    have hl : l.length = (valsN l).length := (valsN_len l).symm
    rw [hl] at hi
    exact Vals.of_own hi
  · have hp := h.pls
    rw [List.take_length] at hp
    have e : (l.map fun k => spA (look B k)).map (Value.int .i64) = l.map fun k => Value.int .i64 (spA (look B k)) := by rw [List.map_map]; rfl
    rw [Ints, e]
    have hl : l.length = (l.map fun k => Value.int .i64 (spA (look B k))).length := (List.length_map _).symm
    rw [hl] at hp
    exact Vals.of_own hp
section
variable {w w' : World} {b0 : Nat} {B : List (Option Bk)} {l : List Nat} {iv wv av : Value}
theorem Seen.only {F : Nat → Prop} (h : Seen w b0 B l iv wv av) (o : Only F w w') (hF : ∀ b, F b → b < b0) : Seen w' b0 B l iv wv av := by
  have hf : ∀ b, b0 ≤ b → ¬ F b := fun b hb e => by have := hF b e; omega
  obtain ⟨us, h1, h2, h3⟩ := h.was
  exact ⟨Vals.only h.ids o hf, ⟨us, h1, Vals.only h2 o hf, fun i u hu => Vals.only (h3 i u hu) o hf⟩, Vals.only h.pls o hf⟩
theorem Seen.fresh (h : Seen w b0 B l iv wv av) (b : Below w.heap.size w w') : Seen w' b0 B l iv wv av := h.only (F := fun _ => False) (Only.of_below b) (fun _ h => h.elim)
theorem Seen.forms (h : Seen w b0 B l iv wv av) : ∃ a1 c1 a2 c2 a3 c3, iv = .slice a1 l.length c1 ∧ wv = .slice a2 l.length c2 ∧ av = .slice a3 l.length c3 := by
  obtain ⟨us, h1, ⟨a2, c2, e2, _⟩, _⟩ := h.was
  obtain ⟨a1, c1, e1, _⟩ := h.ids
  obtain ⟨a3, c3, e3, _⟩ := h.pls
  rw [List.length_map, List.length_map] at e1 e3
  rw [h1] at e2
  exact ⟨a1, c1, a2, c2, a3, c3, e1, e2, e3⟩
theorem getD_map {α : Type} (f : Nat → α) {l : List Nat} {i : Nat} (hi : i < l.length) (h : i < (l.map f).length) : (l.map f)[i] = f (l.getD i 0) := by
  rw [List.getElem_map, List.getD, List.getElem?_eq_getElem hi]; rfl
/-- One of them. -/
theorem Seen.at_ (h : Seen w b0 B l iv wv av) {i : Nat} (hi : i < l.length) : ∃ g1 o1 c1 g2 o2 c2 g3 o3 c3 au cu, iv = .slice (some ⟨g1, o1, none⟩) l.length c1 ∧ wv = .slice (some ⟨g2, o2, none⟩) l.length c2 ∧ av = .slice (some ⟨g3, o3, none⟩) l.length c3 ∧
    w.cell? ⟨g1, o1 + i, none⟩ = some (.int .i64 (l.getD i 0 : Nat)) ∧ w.cell? ⟨g2, o2 + i, none⟩ = some (.slice au (wordsB B (l.getD i 0)).length cu) ∧ w.cell? ⟨g3, o3 + i, none⟩ = some (.int .i64 (spA (look B (l.getD i 0)))) ∧
    Ints (b0 ≤ ·) w (.slice au (wordsB B (l.getD i 0)).length cu) (wordsB B (l.getD i 0)) := by
  obtain ⟨us, h1, h2, h3⟩ := h.was
  obtain ⟨g1, o1, c1, e1, _, _, _, d1⟩ := Vals.at_ h.ids (k := i) (by simpa using hi)
  obtain ⟨g2, o2, c2, e2, _, _, _, d2⟩ := Vals.at_ h2 (k := i) (by omega)
  obtain ⟨g3, o3, c3, e3, _, _, _, d3⟩ := Vals.at_ h.pls (k := i) (by simpa using hi)
  have hu := h3 i _ (List.getElem?_eq_getElem (by omega))
  obtain ⟨au, cu, eu, _⟩ := hu
  have hu := h3 i _ (List.getElem?_eq_getElem (by omega))
  rw [List.length_map] at eu
  rw [eu] at d2 hu
  rw [List.length_map, List.length_map] at e1 e3
  rw [h1] at e2
  rw [List.getElem_map, getD_map _ hi] at d1 d3
  exact ⟨g1, o1, c1, g2, o2, c2, g3, o3, c3, au, cu, e1, e2, e3, d1, d2, d3, hu⟩
end
end Go.Proofs.Ytgfjfpfhalblgaa
