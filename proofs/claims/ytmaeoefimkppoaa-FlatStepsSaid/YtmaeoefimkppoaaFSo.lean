/- What sorted of package flat returns: the keys of a map, in rising order, in new memory. -/
import Derived.Test.YtmaeoefimkppoaaFSrt
import Derived.Test.YtmaeoefimkppoaaFKn
import Derived.Lib.SlKeysI
import Derived.Maps.RangeWalk
namespace Go.Proofs.Ytmaeoefimkppoaa.Fl
set_option maxRecDepth 1000000
open Go.ChangeShapes Go.WideShapes Go.ChangeAt Go.RowKit Go.Shelf Go.Lib Go.Sort
open Go.Proofs.Ytmaeoefimkppoaa.Wd

theorem sorted_of {xs ys : List Int} (h : xs.Perm ys) (hs : ys.Pairwise (· < ·)) : (xs.mergeSort fun x y => decide (x ≤ y)) = ys := by
  have e1 : (xs.mergeSort fun x y => decide (x ≤ y)) = ys.mergeSort fun x y => decide (x ≤ y) := mergeSort_of_perm_i h
  rw [e1]
  exact List.mergeSort_of_pairwise (hs.imp fun {a b} h => by simpa using Int.le_of_lt h)
theorem grown_below {B : Nat} {w w' : World} {row : Option Nat} (h : w.grownBy w' row) (hr : ∀ g, row = some g → B ≤ g) (hB : B ≤ w.heap.size) : Below B w w' :=
  ⟨h.os, h.tape, h.output, h.size, fun k hk => h.block k (Nat.lt_of_lt_of_le hk hB) fun e => by have := hr k e.symm; omega⟩
theorem sort_own (v : Value) (xs : List Int) (base : Nat) (w : World) (h : w.ownsRow base 3 1 v xs.length (xs.map (Value.int .i64))) (hl : xs.length ≤ 1000000) :
    Calls Try.prog 74 #[v] w fun e w' => e = .returned (.tuple #[]) ∧ w'.ownsRow base 3 1 v xs.length ((xs.mergeSort fun x y => decide (x ≤ y)).map (Value.int .i64)) ∧ ∀ B, B ≤ base → B ≤ w.heap.size → Below B w w' := by
  rcases h.2 with ⟨rfl, hz⟩ | ⟨gb, cap, cur, rfl, hbase, hgb, r1, r2, r3, r4⟩
  · have hx : xs = [] := List.eq_nil_of_length_eq_zero hz
    subst hx
    exact (AnyM.slices_Sort_int_none sortA none 0 w).mono fun e w' ⟨he, hw⟩ => ⟨he, by rw [hw]; simpa using h, fun B _ _ => by rw [hw]; exact Below.refl _ _⟩
  · have hH := holds_of_block_i (ss := xs) hgb (by simpa using r4)
    have hgl : gb < w.heap.size := (Array.getElem?_eq_some_iff.1 hgb).1
    refine (AnyM.slices_Sort_int sortA gb 0 cap xs w hH hgl (by omega)).mono fun e w' ⟨he, nn, os, hw⟩ => ⟨he, ?_, ?_⟩
    · subst hw
      have := ownsRow_sorted_i (n := nn) (os := os) (ss := xs) (ts := xs.mergeSort fun x y => decide (x ≤ y)) (by simp) hbase hgb r1 r2 r3
      exact this
    · subst hw
      exact fun B hB hB2 => grown_below (grownBy_sorted_i _) (fun k hk => by cases hk; omega) hB2
theorem mk_room (w : World) (n : Nat) (hn : n ≤ 1000000) : (Instr.makeSlice 30 (.int .i64 0) (.int .i64 n)).run Try.prog w = .ok (.slice (some ⟨w.heap.size, 0, none⟩) 0 n) (w.alloc (.cells (madeCells #[Value.int .i64 0] n) 3)) := by
  obtain ⟨i0, hi, hz0, hz1, hz2⟩ := info_parts Try.info3
  have h := run_make (P := Try.prog) w 30 3 i0 (.int .i64 0) Try.underlying30 hi hz0 .i64 .i64 0 (n : Int) (by omega) (by omega) (by rw [hz2]; omega) (by omega)
  rw [hz1] at h
  simpa [Value.cells] using h
/-- The keys that came, those that are to come. -/
structure KeysIn (D : DataW Value) (left : Lit → Bool) (ks : List Int) : Prop where
  nodup : ks.Nodup
  w64 : ∀ x ∈ ks, W64 x
  mem : ∀ x, W64 x → (x ∈ ks ↔ Maps.has D (.int .i64 x) = true ∧ left (.int .i64 x) = false)
theorem KeysIn.start (D : DataW Value) : KeysIn D (Maps.has D) [] where
  nodup := List.nodup_nil
  w64 := fun x h => (by cases h)
  mem := fun x _ => ⟨fun h => (by cases h), fun h => (by have h1 := h.1; rw [h.2] at h1; cases h1)⟩
theorem KeysIn.next {D : DataW Value} {left : Lit → Bool} {ks : List Int} (h : KeysIn D left ks) {x : Int} (hx : W64 x) (hl : left (.int .i64 x) = true) (hh : Maps.has D (.int .i64 x) = true) :
    KeysIn D (fun y => left y && !y.sameKey (.int .i64 x)) (ks ++ [x]) := by
  have hsk : ∀ y, (Lit.int .i64 y).sameKey (.int .i64 x) = decide (y = x) := fun y => by simp [Lit.sameKey]
  refine ⟨?_, ?_, ?_⟩
  · rw [List.nodup_append]
    refine ⟨h.nodup, by simp, fun a ha b hb => ?_⟩
    simp at hb
    subst hb
    rintro rfl
    have := ((h.mem a hx).1 ha).2
    rw [hl] at this; cases this
  · intro y hy
    rcases List.mem_append.1 hy with hy | hy
    · exact h.w64 y hy
    · rw [List.mem_singleton.1 hy]; exact hx
  · intro y hy
    rw [List.mem_append, h.mem y hy, List.mem_singleton]
    simp only [hsk]
    by_cases hyx : y = x
    · subst hyx; simp [hh]
    · simp [hyx]
theorem KeysIn.done {D : DataW Value} {left : Lit → Bool} {ks l : List Int} (h : KeysIn D left ks) (hl : ∀ k, left k = false) (hn : l.Nodup) (hw : ∀ x ∈ l, W64 x) (hm : ∀ x, W64 x → (x ∈ l ↔ Maps.has D (.int .i64 x) = true)) : ks.Perm l := by
  rw [List.perm_ext_iff_of_nodup h.nodup hn]
  intro x
  constructor
  · intro hx
    exact (hm x (h.w64 x hx)).2 ((h.mem x (h.w64 x hx)).1 hx).1
  · intro hx
    exact (h.mem x (hw x hx)).2 ⟨(hm x (hw x hx)).1 hx, hl _⟩
theorem owns_one {w : World} {b n n' : Nat} {D D' : DataW Value} (h : w.ownsMap Try.prog 3 held b n D) (h' : w.ownsMap Try.prog 3 held b n' D') : D = D' := by
  obtain ⟨es, ck, hb, _, _, rfl⟩ := h
  obtain ⟨es', ck', hb', _, _, rfl⟩ := h'
  rw [hb] at hb'
  injection hb' with hb'
  injection hb' with e1 e2
  rw [e1]
theorem key_inv {key : Value} {kl : Lit} (h : keyOf Try.prog 3 key = some kl) : ∃ x, key = .int .i64 x := by
  obtain ⟨x, hx, _⟩ := Maps.keyOf_i64 Try.underlying3 h
  exact ⟨x, hx⟩
set_option maxHeartbeats 2000000 in
theorem sorted_any {w : World} {b e : Nat} {f : Int → Option Value} (h : MapV w b e f) (l : List Int) (hr : l.Pairwise (· < ·)) (hw : ∀ i ∈ l, W64 i) (hl : ∀ i, W64 i → (i ∈ l ↔ (f i).isSome = true)) (hsz : l.length ≤ 1000000) :
    Calls Try.prog 58 #[.map (some b)] w (GaveI l w) := by
  have hnd : l.Nodup := hr.imp fun h => by omega
  have hlen := fun ty => h.len l hnd hw hl ty
  have hmk := fun w => mk_room w l.length hsz
  obtain ⟨D, hown, hD⟩ := h
  have hsz2 : Maps.size D = l.length := by
    obtain ⟨D', h1, _, h3⟩ := MapV.keys ⟨D, hown, hD⟩ l hnd hw hl
    rw [owns_one hown h1]; exact h3
  have HM : Hid (∀ x, W64 x → (x ∈ l ↔ Maps.has D (.int .i64 x) = true)) := Lib.hid fun x hx => by rw [hl x hx, (hD x hx).1]
  have HW := Lib.hid hw
  have HR := Lib.hid hr
  have HN := Lib.hid hnd
  have HS := Lib.hid hsz
  have ho := hown.alloc (.cells (madeCells #[Value.int .i64 0] l.length) 3)
  obtain ⟨w1, hrange, hrg, hgr, hs1⟩ := ho.range intLaw Try.underlying73
  have hs1' : (w.alloc (.cells (madeCells #[Value.int .i64 0] l.length) 3)).heap.size = w.heap.size + 1 := by simp
  rw [hs1'] at hrange hrg
  have O0 : Hid (w1.ownsRow w.heap.size 3 1 (.slice (some ⟨w.heap.size, 0, none⟩) 0 l.length) 0 []) := by
    have := World.ownsRow_made (base := w.heap.size) (e := 3) (size := 1) w (madeCells #[Value.int .i64 0] l.length) l.length (Nat.le_refl _) (by unfold maxLen; omega) (by simp [madeCells])
    exact Lib.hid (this.kept hgr (.inr (by simp [Value.ownBlock])))
  have B0 : Hid (Below w.heap.size w w1) := Lib.hid ((below_new w _).trans (grown_below hgr (fun g hg => by cases hg) (by simp)))
  clear hl hD hnd hw hr hgr ho hown
  obtain ⟨i0, hi, hz0, hz1, hz2⟩ := info_parts Try.info3
  go_enter Try.func58, Try.ntmps58
  go_wp2
  go_loopw [3] (fun v wr => ∃ ks left cnt, wr.ranges Try.prog 3 held b (w.heap.size + 1) e D left cnt ∧ wr.ownsRow w.heap.size 3 1 v ks.length (ks.map (Value.int .i64)) ∧ KeysIn D left ks ∧ Below w.heap.size w wr ∧ v.ownBlock ≠ some (w.heap.size + 1) ∧ ks.length + cnt ≤ l.length) (fun _ wr => wr.rangeLeft b (w.heap.size + 1))
  case atStart => exact ⟨[], _, _, hrg, O0.out, KeysIn.start D, B0.out, by simp [Value.ownBlock], by simp [hsz2]⟩
  case round =>
    obtain ⟨ks, left, cnt, hrg, hown, hk, hb, hne, hsub⟩ := hrel
    obtain ⟨an, cn, rfl⟩ := own_form hown
    have HK := Lib.hid hk
    have HB := Lib.hid hb
    have HX := Lib.hid hsub
    clear hk hb hsub hmk hlen hrange hsz2
    go_wp2_with (at_next; refine wpList_next_ranges _ rfl _ rfl 3 intLaw held (Value.int .i64) id (fun key kl hk => by obtain ⟨x, hx, _⟩ := Maps.keyOf_i64 Try.underlying3 hk; exact ⟨x, hx⟩) (fun v y hv => ⟨v, rfl⟩) b (w.heap.size + 1) e _ _ _ rfl hrg ?_ ?_)
    · intro _ hl0
      have hp := HK.out.done hl0 HN.out HW.out HM.out
      have hso := sort_own (.slice an ks.length cn) ks w.heap.size wr hown (by have := HS.out; have := HX.out; omega)
      rw [sorted_of hp HR.out] at hso
      have hpl := hp.length_eq
      have HSO := Lib.hid hso
      have hwsz := Lib.hid HB.out.size
      clear hso hown
      rw [hpl] at HSO
      rw [hpl]
      go_wp2_with (go_at_call 74; refine HSO.out.mono ?_; rintro e' w2 ⟨rfl, o2, b2⟩; have O2 := Lib.hid o2; have B2 := Lib.hid (HB.out.trans (b2 w.heap.size (Nat.le_refl _) hwsz.out)); clear o2 b2)
      go_ret
      exact ⟨_, rfl, O2.out, B2.out⟩
    · intro x c kl yd yp w2 cnt2 hkey hlk hv hat hrg2 hlt hgr hsz hen
      obtain ⟨x', hx1, hx2, hx3⟩ := Maps.keyOf_i64 Try.underlying3 hkey
      injection hx1 with _ hx1
      subst hx1 hx2
      have hh : Maps.has D (.int .i64 x) = true := Maps.has_true_of_atKey hat
      have HK2 := Lib.hid (HK.out.next hx3 hlk hh)
      have HC := Lib.hid (show ks.length + 1 + cnt2 ≤ l.length by have := HX.out; omega)
      have B2 := Lib.hid (HB.out.trans (grown_below hgr (fun g hg => by cases hg; omega) HB.out.size))
      have O2 := hown.kept hgr (.inr hne)
      have RG := Lib.hid hrg2
      have HNE := Lib.hid hne
      have HRL := Lib.hid hrg.left_eq
      have HLT := Lib.hid hlt
      have HWS := Lib.hid hrg2.lt
      have hKS := HS.out
      have hKC := HC.out
      clear hkey hlk hv hat hrg2 hlt hgr hsz hh hx3 hown hrg hne
      go_wp2_with (at_builtin; refine wpList_append_own_at _ rfl _ _ 30 rfl w.heap.size 3 i0 (.int .i64 0) 1 8 Try.underlying30 hi hz0 hz1 hz2 rfl (by decide) _ _ _ rfl (O2.alloc _) ⟨w2.heap.size, 0, none⟩ 1 1 [.int .i64 x] rfl rfl ?c1 ?c2 ?c3 ?c4 ?c5 ?_)
      case c2 => rfl
      case c3 => unfold maxLen; omega
      case c4 => omega
      case c5 => have := B2.out.size; simp; omega
      intro v' w3 hown3 hgr3 hnil3 hat3
      have hown4 : w3.ownsRow w.heap.size 3 1 v' (ks ++ [x]).length ((ks ++ [x]).map (Value.int .i64)) := by simpa using hown3
      have hnb : some b ≠ (Value.slice an ks.length cn).ownBlock := fun e => by
        obtain ⟨D', es, ck, hb', _⟩ : ∃ D', w2.ownsMap Try.prog 3 held b D' D := ⟨_, RG.out.owns⟩
        exact own_not_map O2 e.symm hb' rfl
      have RG3 := Lib.hid ((RG.out.alloc (.cells #[.int .i64 x] 3)).kept hgr3 hnb (fun e => HNE.out e.symm))
      have HO := Lib.hid hown4
      have hws := HWS.out
      have HV : Hid (v'.ownBlock ≠ some (w.heap.size + 1)) := Lib.hid fun e => by
        rcases hat3 with h | h
        · rw [h] at e; exact HNE.out e
        · rw [h] at e; injection e with e; omega
      have HB3 : Hid (Below w.heap.size w w3) := Lib.hid ((B2.out.trans ((below_new w2 _).mono B2.out.size)).trans (grown_below hgr3 (fun g hg => (O2.lt g hg).1) (Nat.le_trans B2.out.size (by simp))))
      clear hown3 hgr3 hnil3 hat3 hown4 O2 hnb
      obtain ⟨an', cn', rfl⟩ := own_form HO.out
      go_wp2
      refine ⟨⟨ks ++ [x], _, cnt2, RG3.out, by simpa using HO.out, HK2.out, HB3.out, HV.out, by simp; omega⟩, ?_⟩
      rw [HRL.out, RG3.out.left_eq]
      exact HLT.out
end Go.Proofs.Ytmaeoefimkppoaa.Fl
