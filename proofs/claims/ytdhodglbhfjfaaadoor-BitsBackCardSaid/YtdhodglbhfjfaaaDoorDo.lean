/- How an argument of type []websterref02.Do is read, and what the laws' own function done does: whatever is done, there is a map of the same size behind it, and nothing else has changed. -/
import Derived.Test.YtdhodglbhfjfaaaDoorLay
import Derived.Deep.Slices
import Derived.Deep.Fields
namespace Go.Proofs.YtdhodglbhfjfaaaDoor
open Go.ChangeShapes Go.WideShapes Go.ChangeAt Go.RowKit

theorem Tryd.laidOut : laidOutB Tryd.prog = true := by kernel_rfl
theorem Tryd.cells30 : Tryd.prog.cellsOf 30 = 3 := by kernel_rfl
theorem Tryd.cells3 : Tryd.prog.cellsOf 3 = 1 := by kernel_rfl

/-- The slice value v has len things to do. -/
def Dos (w : World) (v : Value) (len : Nat) : Prop :=
  ∃ a c, v = .slice a len c ∧ len ≤ maxLen ∧ (len = 0 ∨ ∃ b off, a = some ⟨b, off, none⟩ ∧ ∀ i, i < len → ∃ k f n : Int, (Lit.int .i64 k).wf = true ∧ (Lit.int .i64 f).wf = true ∧ (Lit.int .i64 n).wf = true ∧
    w.cell? ⟨b, off + i * 3, none⟩ = some (.int .i64 k) ∧ w.cell? ⟨b, off + i * 3 + 1, none⟩ = some (.int .i64 f) ∧ w.cell? ⟨b, off + i * 3 + 2, none⟩ = some (.int .i64 n))

theorem Dos.below {w w' : World} {v : Value} {n B : Nat} (h : Dos w v n) (hb : Below B w w') (hB : w.heap.size ≤ B) : Dos w' v n := by
  obtain ⟨a, c, rfl, hm, h⟩ := h
  refine ⟨a, c, rfl, hm, h.imp id fun ⟨b, off, ha, h⟩ => ⟨b, off, ha, fun i hi => ?_⟩⟩
  obtain ⟨k, f, m, h1, h2, h3, c1, c2, c3⟩ := h i hi
  have hl := World.block_lt_of_cell? _ _ c1
  have hl : b < B := Nat.lt_of_lt_of_le hl hB
  exact ⟨k, f, m, h1, h2, h3, (hb.cell (p := ⟨b, _, none⟩) hl).trans c1, (hb.cell (p := ⟨b, _, none⟩) hl).trans c2, (hb.cell (p := ⟨b, _, none⟩) hl).trans c3⟩

theorem int_field {H : Type} {enc : TypeId × Value → H} {W : World} {fuel : Nat} {cs : List Value} {x : DataW H × List MemPlace} {j : Nat} (hl : j < cs.length)
    (h : DataW.trod enc Tryd.prog W 0 (fun _ => true) true fuel 3 ((cs.drop j).take (Tryd.prog.cellsOf 3)) = some x) : ∃ n : Int, cs[j]? = some (.int .i64 n) ∧ (Lit.int .i64 n).wf = true := by
  obtain ⟨n, hn, _, hw⟩ := DataW.trod_int Tryd.underlying3 h
  rw [Tryd.cells3, List.drop_eq_getElem_cons hl] at hn
  have hn : cs[j] = .int .i64 n := (List.cons.inj hn).1
  exact ⟨n, by rw [List.getElem?_eq_getElem hl, hn], hw⟩

theorem open_dos {H : Type} {enc : TypeId × Value → H} {W : World} {base : Nat} {v : Value} {d : DataW H} {ps : List MemPlace} (hok : Value.okWide Tryd.prog W .any base 22 v)
    (h : DataW.Trod enc Tryd.prog W 0 (fun _ => true) true 22 v d ps) : ∃ n, Dos W v n := by
  obtain ⟨a0, len, cap, rfl⟩ := okWide_slice Tryd.underlying22 hok
  obtain ⟨fuel, hf⟩ := h
  rcases Deep.open_slice Tryd.underlying22 hf with ⟨hcs, _⟩ | ⟨a, len', cap', m, n, D, Pl, hcs, _, hl, hm, hmm, _, hi⟩
  · simp [Value.cells] at hcs
    obtain ⟨rfl, rfl, rfl⟩ := hcs
    exact ⟨0, none, 0, rfl, Nat.zero_le _, .inl rfl⟩
  · simp [Value.cells] at hcs
    obtain ⟨rfl, rfl, rfl⟩ := hcs
    simp only [if_true] at hmm
    subst hmm
    have all : ∀ i, i < len → ∃ k f n : Int, (Lit.int .i64 k).wf = true ∧ (Lit.int .i64 f).wf = true ∧ (Lit.int .i64 n).wf = true ∧
        W.cell? (a.add (i * 3)) = some (.int .i64 k) ∧ W.cell? (a.add (i * 3 + 1)) = some (.int .i64 f) ∧ W.cell? (a.add (i * 3 + 2)) = some (.int .i64 n) := fun i hlt => by
      obtain ⟨cs', hc, ht⟩ := hi i (by omega)
      rw [Tryd.cells30] at hc
      obtain ⟨_, hcl, hat⟩ := World.cells?_some hc
      obtain ⟨xs, n', _, _, _, hxl, hfs⟩ := DataW.trod_struct Tryd.underlying30 ht
      have hxl3 : xs.length = 3 := hxl
      have g0 := hfs 0 _ rfl
      have g1 := hfs 1 _ rfl
      have g2 := hfs 2 _ rfl
      rw [List.getElem?_eq_getElem (by omega)] at g0 g1 g2
      obtain ⟨k, k1, k2⟩ := int_field (j := 0) (by omega) g0
      obtain ⟨f, f1, f2⟩ := int_field (j := 1) (by omega) g1
      obtain ⟨n, n1, n2⟩ := int_field (j := 2) (by omega) g2
      have c0 := hat 0 (by omega)
      have c1 := hat 1 (by omega)
      have c2 := hat 2 (by omega)
      rw [Deep.add_add] at c0 c1 c2
      exact ⟨k, f, n, k2, f2, n2, c0.trans k1, c1.trans f1, c2.trans n1⟩
    refine ⟨len, some a, _, rfl, by omega, ?_⟩
    by_cases h0 : len = 0
    · exact .inl h0
    · obtain ⟨b, off, spot⟩ := a
      obtain ⟨_, _, _, _, _, _, c0, _⟩ := all 0 (by omega)
      have hspot : spot = none := by simpa [Addr.add] using World.cell?_spot c0
      subst hspot
      refine .inr ⟨b, off, rfl, fun i hi => ?_⟩
      have := all i hi
      simp only [add_plain] at this
      exact this

/-- What something done leaves: some answer, and some map of the same size. -/
def OpPost (m x n : Nat) (w : World) (e : Ending) (w' : World) : Prop := ∃ (r : Int) (S : Nat → Bool), e = .returned (.int .i64 r) ∧ MapAt w' m x n S ∧ But x w w'

theorem take_some (m x n : Nat) (S : Nat → Bool) (f c : Int) (w : World) (h : MapAt w m x n S) (wf : (Lit.int .i64 f).wf = true) (wc : (Lit.int .i64 c).wf = true) :
    Calls Tryd.prog 14 #[.pointer (some ⟨m, 0, none⟩), .int .i64 f, .int .i64 c] w (OpPost m x n w) := by
  have h1 := wf_i64 wf
  have h2 := wf_i64 wc
  by_cases hb : 1 ≤ c ∧ 0 ≤ f ∧ f + c ≤ n
  · obtain ⟨f, rfl⟩ := Int.eq_ofNat_of_zero_le hb.2.1
    obtain ⟨c, rfl⟩ := Int.eq_ofNat_of_zero_le (show 0 ≤ c by omega)
    by_cases hS : cnt S f c = 0
    · exact (take_yes m x n S f c w h (by omega) (by omega) hS).mono fun e w' ⟨he, hm, hb⟩ => ⟨_, _, he, hm, hb⟩
    · exact (take_full m x n S f c w h (by omega) (by omega) hS).mono fun e w' ⟨he, d, hw⟩ => ⟨_, S, he, by rw [hw]; exact h.drewN d, by rw [hw]; exact but_drewN x w d⟩
  · exact (take_no m x n S f c w h h1.1 h1.2 h2.2 hb).mono fun e w' ⟨he, hw⟩ => ⟨_, S, he, by rw [← hw]; exact h, by rw [← hw]; exact But.refl x w⟩
theorem free_some (m x n : Nat) (S : Nat → Bool) (f c : Int) (w : World) (h : MapAt w m x n S) (wf : (Lit.int .i64 f).wf = true) (wc : (Lit.int .i64 c).wf = true) :
    Calls Tryd.prog 15 #[.pointer (some ⟨m, 0, none⟩), .int .i64 f, .int .i64 c] w (OpPost m x n w) := by
  have h1 := wf_i64 wf
  have h2 := wf_i64 wc
  by_cases hb : 1 ≤ c ∧ 0 ≤ f ∧ f + c ≤ n
  · obtain ⟨f, rfl⟩ := Int.eq_ofNat_of_zero_le hb.2.1
    obtain ⟨c, rfl⟩ := Int.eq_ofNat_of_zero_le (show 0 ≤ c by omega)
    by_cases hS : cnt S f c = c
    · exact (free_yes m x n S f c w h (by omega) (by omega) hS).mono fun e w' ⟨he, hm, hb⟩ => ⟨_, _, he, hm, hb⟩
    · exact (free_none m x n S f c w h (by omega) (by omega) hS).mono fun e w' ⟨he, d, hw⟩ => ⟨_, S, he, by rw [hw]; exact h.drewN d, by rw [hw]; exact but_drewN x w d⟩
  · exact (free_no m x n S f c w h h1.1 h1.2 h2.2 hb).mono fun e w' ⟨he, hw⟩ => ⟨_, S, he, by rw [← hw]; exact h, by rw [← hw]; exact But.refl x w⟩

set_option maxHeartbeats 1000000 in
theorem done_any (m x n : Nat) (S : Nat → Bool) (k f c : Int) (w : World) (h : MapAt w m x n S) (wf : (Lit.int .i64 f).wf = true) (wc : (Lit.int .i64 c).wf = true) :
    Calls Tryd.prog 10 #[.pointer (some ⟨m, 0, none⟩), .agg #[.int .i64 k, .int .i64 f, .int .i64 c]] w (OpPost m x n w) := by
  have B0 : Hid (∀ o, But x w (w.alloc o)) := fun o => But.of_below ((Below.refl _ _).alloc (Nat.le_refl _) o)
  have H1 := Lib.hid (fun o => take_some m x n S f c (w.alloc o) (h.below ((Below.refl _ _).alloc (Nat.le_refl _) o)) wf wc)
  have H2 := Lib.hid (fun o => free_some m x n S f c (w.alloc o) (h.below ((Below.refl _ _).alloc (Nat.le_refl _) o)) wf wc)
  clear h
  by_cases hk : k = 1
  · subst hk
    go_enter Tryd.func10, Tryd.ntmps10
    go_wp2_with (go_at_call 14; refine (H1.out _).mono ?_; rintro e w' ⟨r, S', rfl, hm, hb⟩)
    go_ret
    exact ⟨r, S', rfl, hm, (B0.out _).trans hb⟩
  · have hk' : (k == 1) = false := by simpa using hk
    go_enter Tryd.func10, Tryd.ntmps10
    go_wp2_with (go_at_call 15; refine (H2.out _).mono ?_; rintro e w' ⟨r, S', rfl, hm, hb⟩)
    go_ret
    exact ⟨r, S', rfl, hm, (B0.out _).trans hb⟩
end Go.Proofs.YtdhodglbhfjfaaaDoor
