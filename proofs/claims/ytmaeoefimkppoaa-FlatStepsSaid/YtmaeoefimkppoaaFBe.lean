/- What Become of a memory does. -/
import Derived.Test.YtmaeoefimkppoaaFNw
namespace Go.Proofs.Ytmaeoefimkppoaa.Fl
set_option maxRecDepth 1000000
open Go.ChangeShapes Go.WideShapes Go.ChangeAt Go.RowKit
open Go.Proofs.Ytmaeoefimkppoaa.Wd

theorem MapV.swap {w : World} {b e : Nat} {f : Int → Option Value} (h : MapV w b e f) {i j : Int} (hi : W64 i) (hj : W64 j) (hfi : (f i).isSome = true) (hfj : (f j).isSome = true) (he : e < 2000000) (x y : Value) :
    ∃ (vi vj : Value) (si sj : Nat) (w1 w2 : World), (Instr.mapEntry 73 (.map (some b)) (.int .i64 i)).run Try.prog w = .ok (.tuple #[vi, goInt si]) w ∧ (Instr.mapEntry 73 (.map (some b)) (.int .i64 j)).run Try.prog w1 = .ok (.tuple #[vj, goInt sj]) w1 ∧
      (Instr.entryStore 73 (.map (some b)) (goInt si) x).run Try.prog w = .ok () w1 ∧ (Instr.entryStore 73 (.map (some b)) (goInt sj) y).run Try.prog w1 = .ok () w2 ∧ MapV w2 b (e + 2) (putM (putM f i x) j y) ∧ Only (· = b) w w2 := by
  obtain ⟨vi, si, r1, s1⟩ := h.entry i hi hfi
  obtain ⟨w1, r3, m1, o1, k1⟩ := h.write i hi s1 x (by omega)
  obtain ⟨vj, sj, r2, s2⟩ := m1.entry j hj (by unfold putM; split <;> simp_all)
  obtain ⟨w2, r4, m2, o2, _⟩ := m1.write j hj s2 y (by omega)
  exact ⟨vi, vj, si, sj, w1, w2, r1, r2, r3, r4, m2, o1.trans o2⟩
section
variable {w w' : World} {K : Nat → Prop} {m : Nat} {r : Option Nat} {nv : Value} {L : List (Option En)}
/-- Two have changed places. -/
theorem MemR.swapped {b : Nat} (h : MemR w K m (some b) nv L) {i j : Int} {ei ej : En} (hi : at_ L i = some ei) (hj : at_ L j = some ej) (o : Only (· = b) w w') (hm : MapV w' b (L.length + 2) (putM (putM (fun q => (at_ L q).map En.val) i ej.val) j ei.val)) :
    MemR w' K m (some b) nv (setAt (setAt L i (some ej)) j (some ei)) := by
  obtain ⟨r1, r2⟩ := at_rng hi
  obtain ⟨r3, r4⟩ := at_rng hj
  have hat : ∀ q, at_ (setAt (setAt L i (some ej)) j (some ei)) q = if q = j then some ei else if q = i then some ej else at_ L q := fun q => by rw [at_set _ _ r3 (by rw [set_len]; exact r4), at_set _ _ r1 r2]
  have hid : ids (setAt (setAt L i (some ej)) j (some ei)) = ids L := ids_congr fun q => by
    rw [hat]
    split
    · rename_i hq; rw [hq, hj]; rfl
    split
    · rename_i hq; rw [hq, hi]; rfl
    · rfl
  have hl : (setAt (setAt L i (some ej)) j (some ei)).length = L.length := by rw [set_len, set_len]
  have hbm : b ≠ m := h.offr b rfl
  have hmb : ¬ m = b := fun e => hbm e.symm
  have hmp : MapV w b L.length (fun q => (at_ L q).map En.val) := by
    rcases h.mp with ⟨h0, _⟩ | ⟨b', h0, hm⟩
    · cases h0
    · cases h0; exact hm
  have hno : ∀ q e, at_ L q = some e → ∀ g, e.rv.ownBlock = some g → g ≠ b := fun q e he g hg e' => (h.rows q e he).not_map hmp (by rw [hg, e'])
  have hwhere : ∀ q y, at_ (setAt (setAt L i (some ej)) j (some ei)) q = some y → ∃ q', at_ L q' = some y ∧ (q = j ∧ q' = i ∨ q ≠ j ∧ q = i ∧ q' = j ∨ q ≠ j ∧ q ≠ i ∧ q' = q) := by
    intro q y hy
    rw [hat] at hy
    split at hy
    · rename_i h1; cases hy; exact ⟨i, hi, .inl ⟨h1, rfl⟩⟩
    split at hy
    · rename_i h1 h2; cases hy; exact ⟨j, hj, .inr (.inl ⟨h1, h2, rfl⟩)⟩
    · rename_i h1 h2; exact ⟨q, hy, .inr (.inr ⟨h1, h2, rfl⟩)⟩
  refine { c0 := by rw [hl]; exact (o.cell (p := ⟨m, 0, none⟩) h.lt hmb).trans h.c0, c1 := (o.cell (p := ⟨m, 1, none⟩) h.lt hmb).trans h.c1, c2 := (o.cell (p := ⟨m, 2, none⟩) h.lt hmb).trans h.c2, fz := fun q => (o.frozen (p := ⟨m, q, none⟩) h.lt hmb).trans (h.fz q), mp := .inr ⟨b, rfl, ?_⟩, nums := by rw [hid]; exact own_only h.nums o (fun g hg e => hmp.not_own h.nums (by rw [hg, e])), rows := ?_, apart := ?_, off := ?_, offn := h.offn, offr := h.offr, km := h.km, kr := h.kr, kn := h.kn, ko := ?_, kb := fun g hg => Nat.lt_of_lt_of_le (h.kb g hg) o.size, lt := Nat.lt_of_lt_of_le h.lt o.size, few := by rw [hl]; exact h.few }
  · rw [hl]
    have h2 : MapV w' b (L.length + 2) (fun q => (at_ (setAt (setAt L i (some ej)) j (some ei)) q).map En.val) := hm.congr fun q _ => by
      rw [hat]
      unfold putM
      split
      · rfl
      split <;> rfl
    have h3 := h2.tight (ids L) (ids_nodup L) (ids_w64 h.few) (fun q _ => by
      rw [mem_ids, hat]
      split
      · rename_i hq; rw [hq, hj]; simp
      split
      · rename_i hq; rw [hq, hi]; simp
      · cases at_ L q <;> simp)
    exact h3.mono (ids_le L)
  · intro q y hy
    obtain ⟨q', hq', _⟩ := hwhere q y hy
    exact (h.rows q' y hq').only o fun g hg => hno q' y hq' g hg
  · intro p q x y hx hy hne g hg
    obtain ⟨p', hp', cp⟩ := hwhere p x hx
    obtain ⟨q', hq', cq⟩ := hwhere q y hy
    refine h.apart p' q' x y hp' hq' ?_ g hg
    rcases cp with ⟨a1, a2⟩ | ⟨a1, a2, a3⟩ | ⟨a1, a2, a3⟩ <;> rcases cq with ⟨b1, b2⟩ | ⟨b1, b2, b3⟩ | ⟨b1, b2, b3⟩ <;> omega
  · intro q y hy
    obtain ⟨q', hq', _⟩ := hwhere q y hy
    exact h.off q' y hq'
  · intro q y hy
    obtain ⟨q', hq', _⟩ := hwhere q y hy
    exact h.ko q' y hq'
end
set_option maxHeartbeats 1000000 in
theorem become_no1 {w : World} {K : Nat → Prop} {m : Nat} {E : Mem} (h : MemB K w m E) (a b : Int) (ha : In64 a) (hn : at_ E (namV a) = none) :
    Calls Try.prog 28 #[.pointer (some ⟨m, 0, none⟩), .int .i64 a, .int .i64 b] w (WrPost K m E 4 w) := by
  have HF : Hid (Calls Try.prog 48 #[.pointer (some ⟨m, 0, none⟩), .int .i64 a] w fun e w2 => e = .returned (.tuple #[.int .i64 0, .int .i64 4]) ∧ Below w.heap.size w w2) := by
    obtain ⟨r, nv, L, h, rfl⟩ := h
    exact Lib.hid ((find_raw h a ha).mono fun e w2 ⟨he, hb⟩ => by
      unfold idF errF at he
      rw [hn] at he
      exact ⟨he, hb⟩)
  have HM : Hid (∀ w1, Below w.heap.size w w1 → MemB K w1 m E) := fun w1 hb => h.fresh hb
  clear h hn
  go_enter Try.func28, Try.ntmps28
  go_wp2_with (go_at_call 48; refine HF.out.mono ?_; rintro e' w1 ⟨rfl, hb⟩; have K1 := Lib.hid hb)
  go_ret
  exact ⟨rfl, HM.out _ K1.out, Keeps.of_below K1.out⟩
set_option maxHeartbeats 1000000 in
theorem become_no2 {w : World} {K : Nat → Prop} {m : Nat} {E : Mem} (h : MemB K w m E) (a b : Int) (ha : In64 a) (hb0 : In64 b) {x : Ob} (hs : at_ E (namV a) = some x) (hn : at_ E (namV b) = none) :
    Calls Try.prog 28 #[.pointer (some ⟨m, 0, none⟩), .int .i64 a, .int .i64 b] w (WrPost K m E 4 w) := by
  have HF : Hid (Calls Try.prog 48 #[.pointer (some ⟨m, 0, none⟩), .int .i64 a] w fun e w2 => ∃ i, e = .returned (.tuple #[.int .i64 i, .int .i64 0]) ∧ Below w.heap.size w w2) := by
    obtain ⟨r, nv, L, h, rfl⟩ := h
    exact Lib.hid ((find_raw h a ha).mono fun e w2 ⟨he, hb⟩ => by
      unfold idF errF at he
      rw [hs] at he
      exact ⟨_, he, hb⟩)
  have HF2 : Hid (∀ w1, Below w.heap.size w w1 → Calls Try.prog 48 #[.pointer (some ⟨m, 0, none⟩), .int .i64 b] w1 fun e w2 => e = .returned (.tuple #[.int .i64 0, .int .i64 4]) ∧ Below w1.heap.size w1 w2) := fun w1 hb => by
    obtain ⟨r, nv, L, h, rfl⟩ := h
    exact ((find_raw (h.fresh hb) b hb0).mono fun e w2 ⟨he, hb⟩ => by
      unfold idF errF at he
      rw [hn] at he
      exact ⟨he, hb⟩)
  have HM : Hid (∀ w1, Below w.heap.size w w1 → MemB K w1 m E) := fun w1 hb => h.fresh hb
  clear h hn hs
  go_enter Try.func28, Try.ntmps28
  go_wp2_with fail
  refine HF.out.mono ?_
  rintro e' w1 ⟨i, rfl, hb⟩
  have K1 := Lib.hid hb
  clear hb
  go_wp2_with fail
  refine (HF2.out _ K1.out).mono ?_
  rintro e' w2 ⟨rfl, hb⟩
  have K2 := Lib.hid (K1.out.trans (hb.mono K1.out.size))
  clear hb
  go_wp2
  go_ret
  exact ⟨rfl, HM.out _ K2.out, Keeps.of_below K2.out⟩
set_option maxHeartbeats 4000000 in
theorem become_yes {w : World} {K : Nat → Prop} {m : Nat} {r : Option Nat} {nv : Value} {L : List (Option En)} (h : MemR w K m r nv L) (a b : Int) (ha : In64 a) (hb0 : In64 b) {x y : En} (hx : at_ L (namV a) = some x) (hy : at_ L (namV b) = some y) :
    Calls Try.prog 28 #[.pointer (some ⟨m, 0, none⟩), .int .i64 a, .int .i64 b] w (WrPost K m (setAt (setAt (mapO En.o L) (namV a) (some y.o)) (namV b) (some x.o)) 0 w) := by
  have hi : W64 (namV a) := w64_of (namV_in a).1 (namV_in a).2
  have hj : W64 (namV b) := w64_of (namV_in b).1 (namV_in b).2
  obtain ⟨bm, rfl⟩ : ∃ bm, r = some bm := by
    rcases h.mp with ⟨_, h0⟩ | ⟨bm, h0, _⟩
    · have := h0 _ hi; simp only [hx] at this; cases this
    · exact ⟨bm, h0⟩
  have HF : Hid (Calls Try.prog 48 #[.pointer (some ⟨m, 0, none⟩), .int .i64 a] w fun e w2 => e = .returned (.tuple #[.int .i64 (namV a), .int .i64 0]) ∧ Below w.heap.size w w2) := 
    Lib.hid ((find_raw h a ha).mono fun e w2 ⟨he, hb⟩ => by
      unfold idF errF at he
      rw [isSome_map, hx] at he
      exact ⟨he, hb⟩)
  have HF2 : Hid (∀ w1, Below w.heap.size w w1 → Calls Try.prog 48 #[.pointer (some ⟨m, 0, none⟩), .int .i64 b] w1 fun e w2 => e = .returned (.tuple #[.int .i64 (namV b), .int .i64 0]) ∧ Below w1.heap.size w1 w2) := fun w1 hb => 
    ((find_raw (h.fresh hb) b hb0).mono fun e w2 ⟨he, hb⟩ => by
      unfold idF errF at he
      rw [isSome_map, hy] at he
      exact ⟨he, hb⟩)
  have HH := Lib.hid h
  have HX := Lib.hid hx
  have HY := Lib.hid hy
  have HI := Lib.hid hi
  have HJ := Lib.hid hj
  clear h hx hy hi hj
  generalize namV a = i at *
  generalize namV b = j at *
  go_enter Try.func28, Try.ntmps28
  go_wp2_with fail
  refine HF.out.mono ?_
  rintro e' w1 ⟨rfl, hb⟩
  have K1 := Lib.hid hb
  clear hb
  go_wp2_with fail
  refine (HF2.out _ K1.out).mono ?_
  rintro e' w2 ⟨rfl, hb⟩
  have K2 := Lib.hid (K1.out.trans (hb.mono K1.out.size))
  clear hb
  go_wp2_with fail
  have h2 := (HH.out.fresh K2.out)
  have hmp : MapV w2.drew bm L.length (fun q => (at_ L q).map En.val) := by
    rcases h2.mp with ⟨h0, _⟩ | ⟨b', h0, hm⟩
    · cases h0
    · cases h0; exact hm.heap rfl
  obtain ⟨xa1, xn1, xc1, xa2, xn2, xc2, hxv⟩ := (h2.rows _ x HX.out).form
  obtain ⟨ya1, yn1, yc1, ya2, yn2, yc2, hyv⟩ := (h2.rows _ y HY.out).form
  have lx := hmp.look1 i HI.out
  have ly := hmp.look1 j HJ.out
  simp only [HX.out, HY.out, Option.map_some, Option.getD_some] at lx ly
  obtain ⟨vi, vj, si, sj, w3, w4, r1, r2, r3, r4, m4, o4⟩ := hmp.swap HI.out HJ.out (by simp [HX.out]) (by simp [HY.out]) (by have := h2.few; omega) y.val x.val
  have HS := Lib.hid (h2.swapped HX.out HY.out (o := ⟨o4.os, o4.tape, o4.output, o4.size, o4.block⟩) m4)
  have HK : Hid (Keeps K w w4) := by
    have hbk : ¬ K bm := HH.out.kr bm rfl
    exact Lib.hid (Keeps.trans (Keeps.of_below K2.out) ⟨o4.os, o4.tape, o4.output, o4.size, fun k hk hn => o4.block k hk (fun e => hn (by rw [e]; exact hbk))⟩)
  have q1 := h2.c1
  have hlt := h2.lt
  rw [hxv] at lx r4
  rw [hyv] at ly r3
  unfold goInt at r1 r2 r3 r4
  clear h2 hmp m4 o4 hxv hyv HF HF2
  go_region
  all_goals go_simp
  all_goals go_wp2
  all_goals go_ret
  all_goals exact ⟨rfl, ⟨_, _, _, HS.out, by rw [mapO_set, mapO_set]; rfl⟩, HK.out⟩
theorem become_any {w : World} {K : Nat → Prop} {m : Nat} {E : Mem} (h : MemB K w m E) (a b : Int) (ha : In64 a) (hb : In64 b) :
    Calls Try.prog 28 #[.pointer (some ⟨m, 0, none⟩), .int .i64 a, .int .i64 b] w (WrPost K m (becF E a b) (becE E a b) w) := by
  cases hx : at_ E (namV a) with
  | none =>
    have h1 : becE E a b = 4 := by unfold becE errF; rw [hx]; rfl
    have h2 : becF E a b = E := by unfold becF; rw [h1]; rfl
    rw [h1, h2]
    exact become_no1 h a b ha hx
  | some x =>
    cases hy : at_ E (namV b) with
    | none =>
      have h1 : becE E a b = 4 := by unfold becE errF; rw [hx, hy]; rfl
      have h2 : becF E a b = E := by unfold becF; rw [h1]; rfl
      rw [h1, h2]
      exact become_no2 h a b ha hb hx hy
    | some y =>
      have h1 : becE E a b = 0 := by unfold becE errF; rw [hx, hy]; rfl
      have h2 : becF E a b = setAt (setAt E (namV a) (some y)) (namV b) (some x) := by unfold becF; rw [h1, hx, hy]; rfl
      rw [h1, h2]
      obtain ⟨r, nv, L, h, rfl⟩ := h
      rw [at_map] at hx hy
      obtain ⟨ex, hx', rfl⟩ := Option.map_eq_some_iff.1 hx
      obtain ⟨ey, hy', rfl⟩ := Option.map_eq_some_iff.1 hy
      exact become_yes h a b ha hb hx' hy'
end Go.Proofs.Ytmaeoefimkppoaa.Fl
