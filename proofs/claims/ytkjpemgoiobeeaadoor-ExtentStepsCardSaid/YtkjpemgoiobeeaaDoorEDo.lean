/- How an argument of type []websterref04.Do is read, with the reach that the reading itself has; and that the laws' function long tells something. -/
import Derived.Test.YtkjpemgoiobeeaaDoorERs
namespace Go.Proofs.YtkjpemgoiobeeaaDoor
set_option maxRecDepth 1000000
open Go.ChangeShapes Go.WideShapes Go.ChangeAt Go.RowKit

theorem Tryd.bytes35 : Tryd.prog.bytesOf 35 = 40 := by kernel_rfl

/-- The slice value v has len things to do, none of them with more bytes than a reading reaches. -/
def DosZ (w : World) (v : Value) (len : Nat) : Prop :=
  ∃ a c, v = .slice a len c ∧ len * 40 ≤ 140737488351232 ∧ (len = 0 ∨ ∃ b off, a = some ⟨b, off, none⟩ ∧ ∀ i, i < len → ∃ (k f : Int) (bv : Value) (bs : List Int), (Lit.int .i64 k).wf = true ∧ (Lit.int .i64 f).wf = true ∧ ArgB w bv bs ∧ bs.length ≤ 140737488351232 ∧
    w.cell? ⟨b, off + i * 3, none⟩ = some (.int .i64 k) ∧ w.cell? ⟨b, off + i * 3 + 1, none⟩ = some (.int .i64 f) ∧ w.cell? ⟨b, off + i * 3 + 2, none⟩ = some bv)
theorem DosZ.at_ {w : World} {v : Value} {len k : Nat} (h : DosZ w v len) (hk : k < len) :
    ∃ b off c, v = .slice (some ⟨b, off, none⟩) len c ∧ b < w.heap.size ∧ ∃ (q f : Int) (ba : Option Addr) (bc : Nat) (bs : List Int), (Lit.int .i64 q).wf = true ∧ (Lit.int .i64 f).wf = true ∧ Bytes bs ∧ bs.length ≤ 140737488351232 ∧
      ∀ w', Below w.heap.size w w' → Bts (· < w.heap.size) w' (.slice ba bs.length bc) bs ∧ w'.cell? ⟨b, off + k * 3, none⟩ = some (.int .i64 q) ∧ w'.cell? ⟨b, off + k * 3 + 1, none⟩ = some (.int .i64 f) ∧ w'.cell? ⟨b, off + k * 3 + 2, none⟩ = some (.slice ba bs.length bc) := by
  obtain ⟨a, c, rfl, _, h⟩ := h
  obtain ⟨b, off, rfl, h'⟩ := h.resolve_left (by omega)
  obtain ⟨q, f, bv, bs, w1, w2, hbv, hz, c1, c2, c3⟩ := h' k hk
  obtain ⟨ba, bc, rfl, _⟩ := hbv.1.form
  have hl : b < w.heap.size := World.block_lt_of_cell? _ _ c1
  exact ⟨b, off, c, rfl, hl, q, f, ba, bc, bs, w1, w2, hbv.2.1, hz, fun w' hb => ⟨hbv.1.only (Only.of_below (F := fun _ => False) hb) (fun _ _ h => h), (hb.cell (p := ⟨b, _, none⟩) hl).trans c1, (hb.cell (p := ⟨b, _, none⟩) hl).trans c2, (hb.cell (p := ⟨b, _, none⟩) hl).trans c3⟩⟩

theorem mem_weightsAll {H : Type} {P : Program} {e : TypeId} {x : Nat} {d : DataW H} : ∀ {l : List (DataW H)}, d ∈ l → x ∈ d.weights P e → x ∈ DataW.weightsAll P e l
  | [], h, _ => by cases h
  | y :: l, h, hx => by
    unfold DataW.weightsAll
    rcases List.mem_cons.1 h with rfl | h
    · exact List.mem_append_left _ hx
    · exact List.mem_append_right _ (mem_weightsAll h hx)

/-- Some answer; nothing has changed. -/
def LongPost (w : World) (e : Ending) (w' : World) : Prop := (∃ b, e = .returned (.bool b)) ∧ w = w'
set_option maxHeartbeats 1000000 in
theorem long_any (v : Value) (len : Nat) (w : World) (h : DosZ w v len) : Calls Tryd.prog 8 #[v] w (LongPost w) := by
  have HV := Lib.hid h
  obtain ⟨a, c, rfl, hl, _⟩ := h
  go_enter Tryd.func8, Tryd.ntmps8
  go_wp2
  go_loop [3, 4] (fun z i => ∃ (k : Nat) (y : Int), k ≤ len ∧ i = .int .i64 k ∧ z = .int .i64 y) (fun _ i => len - (intOf i).toNat)
  case atStart => exact ⟨0, 0, Nat.zero_le _, rfl, rfl⟩
  case round =>
    obtain ⟨k, y, hk, rfl, rfl⟩ := hrel
    by_cases hlt : k < len
    · obtain ⟨b, off, c', he, _, q, f, ba, bc, bs, _, _, _, hz, hat⟩ := HV.out.at_ hlt
      obtain ⟨_, _, _, hc⟩ := hat w (Below.refl _ _)
      injection he with e1 e2 e3
      subst e1 e3
      clear hat
      go_wp2
      go_round
      case rel => exact ⟨k + 1, _, by omega, by go_num, rfl⟩
      case measure => simp [intOf]; omega
    · go_wp2
      go_ret
      exact ⟨⟨_, rfl⟩, rfl⟩

theorem open_dosz {H : Type} {enc : TypeId × Value → H} {W : World} {base : Nat} {v : Value} {d : DataW H} {ps : List MemPlace} (hok : Value.okWide Tryd.prog W .any base 22 v)
    (h : DataW.Trod enc Tryd.prog W 0 (fun _ => true) true 22 v d ps) (hd : ∀ x ∈ d.weights Tryd.prog 22, x ≤ reachBytes) : ∃ n, DosZ W v n := by
  have er : reachBytes = 140737488351232 := rfl
  obtain ⟨a0, len, cap, rfl⟩ := okWide_slice Tryd.underlying22 hok
  obtain ⟨fuel, hf⟩ := h
  rcases Deep.open_slice Tryd.underlying22 hf with ⟨hcs, _⟩ | ⟨a, len', cap', m, n, D, Pl, hcs, _, hl, hm, hmm, hxx, hi⟩
  · simp [Value.cells] at hcs
    obtain ⟨rfl, rfl, rfl⟩ := hcs
    exact ⟨0, none, 0, rfl, by omega, .inl rfl⟩
  · simp [Value.cells] at hcs
    obtain ⟨rfl, rfl, rfl⟩ := hcs
    simp only [if_true] at hmm
    subst hmm
    have hdd : d = .slice ((List.range len).map D) ((List.range (m - len)).map fun j => D (len + j)) := congrArg Prod.fst hxx
    have hw : d.weights Tryd.prog 22 = (((List.range len).map D).length + ((List.range (m - len)).map fun j => D (len + j)).length) * Tryd.prog.bytesOf 35 :: (DataW.weightsAll Tryd.prog 35 ((List.range len).map D) ++ DataW.weightsAll Tryd.prog 35 ((List.range (m - len)).map fun j => D (len + j))) := by
      rw [hdd]
      simp only [DataW.weights, Tryd.underlying22]
    have hlen : len * 40 ≤ 140737488351232 := by
      have := hd _ (by rw [hw]; exact List.mem_cons_self)
      rw [Tryd.bytes35] at this
      simp at this
      omega
    have all : ∀ i, i < len → ∃ (k f : Int) (bv : Value) (bs : List Int), (Lit.int .i64 k).wf = true ∧ (Lit.int .i64 f).wf = true ∧ ArgB W bv bs ∧ bs.length ≤ 140737488351232 ∧
        W.cell? (a.add (i * 3)) = some (.int .i64 k) ∧ W.cell? (a.add (i * 3 + 1)) = some (.int .i64 f) ∧ W.cell? (a.add (i * 3 + 2)) = some bv := fun i hlt => by
      obtain ⟨cs', hc, ht⟩ := hi i (by omega)
      rw [Tryd.cells35] at hc
      obtain ⟨_, hcl, hat⟩ := World.cells?_some hc
      obtain ⟨xs, n', _, hD, _, hxl, hfs⟩ := DataW.trod_struct Tryd.underlying35 ht
      have hxl3 : xs.length = 3 := hxl
      have g0 := hfs 0 _ rfl
      have g1 := hfs 1 _ rfl
      have g2 := hfs 2 _ rfl
      rw [List.getElem?_eq_getElem (by omega)] at g0 g1 g2
      obtain ⟨k, k1, k2⟩ := int_field (j := 0) (by omega) g0
      obtain ⟨f, f1, f2⟩ := int_field (j := 1) (by omega) g1
      obtain ⟨bv, bs, n1, n2⟩ := bytes_field (j := 2) (by omega) g2
      have c0 := hat 0 (by omega)
      have c1 := hat 1 (by omega)
      have c2 := hat 2 (by omega)
      rw [Deep.add_add] at c0 c1 c2
      have hDi : D i = .agg (xs.map (·.1)) := congrArg Prod.fst hD
      have hx2 : (xs.map (·.1))[2]? = some (xs[2]'(by omega)).1 := by rw [List.getElem?_map, List.getElem?_eq_getElem (by omega)]; rfl
      have hin : ∀ y ∈ (xs[2]'(by omega)).1.weights Tryd.prog 33, y ≤ reachBytes := fun y hy => by
        refine hd y ?_
        rw [hw]
        refine List.mem_cons_of_mem _ (List.mem_append_left _ (mem_weightsAll (d := D i) (List.mem_map.2 ⟨i, List.mem_range.2 hlt, rfl⟩) ?_))
        rw [hDi]
        simp only [DataW.weights, Tryd.underlying35]
        exact DataW.weights_mem_each (j := 2) (t := 33) rfl hx2 y hy
      have hbl : bs.length ≤ 140737488351232 := by
        have n1' : [bv] = (cs'.drop 2).take 1 := by
          rw [List.drop_eq_getElem_cons (by omega)]
          rw [List.getElem?_eq_getElem (by omega)] at n1
          rw [← Option.some.inj n1]
          rfl
        have g2' : DataW.Trod enc Tryd.prog W 0 (fun _ => true) true 33 bv (xs[2]'(by omega)).1 (xs[2]'(by omega)).2 := by
          obtain ⟨ba, bc, rfl, _⟩ := n2.1.form
          refine ⟨n', ?_⟩
          have e : (Value.slice ba bs.length bc).cells.toList = (cs'.drop 2).take 1 := by rw [← n1']; rfl
          rw [e]
          exact g2
        exact bts_size g2' n2 (fun el sp e => hin _ (by
          rw [e]
          simp only [DataW.weights, Tryd.underlying33]
          exact List.mem_cons_self))
      exact ⟨k, f, bv, bs, k2, f2, n2, hbl, c0.trans k1, c1.trans f1, c2.trans n1⟩
    refine ⟨len, some a, _, rfl, hlen, ?_⟩
    by_cases h0 : len = 0
    · exact .inl h0
    · obtain ⟨b, off, spot⟩ := a
      obtain ⟨_, _, _, _, _, _, _, _, c0, _⟩ := all 0 (by omega)
      have hspot : spot = none := by simpa [Addr.add] using World.cell?_spot c0
      subst hspot
      refine .inr ⟨b, off, rfl, fun i hi => ?_⟩
      have := all i hi
      simp only [add_plain] at this
      exact this
end Go.Proofs.YtkjpemgoiobeeaaDoor
