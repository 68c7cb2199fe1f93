/- Package large's summands and Add. -/
import Derived.Test.YtbfacdfmanffdaaGreatDoorJBk
import Derived.Test.YtbfacdfmanffdaaGreatDoorJMu
import Derived.Test.YtbfacdfmanffdaaGreatDoorJDi
namespace Go.Proofs.YtbfacdfmanffdaaGreatDoor
set_option maxRecDepth 1000000
open Go.ChangeShapes Go.WideShapes Go.ChangeAt Go.RowKit Go.Shelf
attribute [local go_sem] Oper.semAt_some

abbrev SV := Option Addr × Nat × Nat
def sv (t : SV) : Value := .slice t.1 t.2.1 t.2.2
def encS (t : SV) : Array Value := #[.slice t.1 t.2.1 t.2.2]
/-- What summands reads: its two boxes, the list's cells. -/
structure SumRd (Ba Bl : Nat) (ta : SV) (al : Option Addr) (nl cl : Nat) (bv : Nat → SV) (W : World) : Prop where
  a : W.cell? ⟨Ba, 0, none⟩ = some (sv ta)
  l : W.cell? ⟨Bl, 0, none⟩ = some (.slice al nl cl)
  at_ : ∀ j, j < nl → ∃ b off, al = some ⟨b, off, none⟩ ∧ W.cell? ⟨b, off + j, none⟩ = some (sv (bv j))
theorem SumRd.next {Ba Bl : Nat} {ta : SV} {al : Option Addr} {nl cl : Nat} {bv : Nat → SV} {W W' : World} (h : SumRd Ba Bl ta al nl cl bv W) (hb : Below W.heap.size W W') : SumRd Ba Bl ta al nl cl bv W' :=
  ⟨(hb.cell (p := ⟨Ba, 0, none⟩) (World.block_lt_of_cell? _ _ h.a)).trans h.a, (hb.cell (p := ⟨Bl, 0, none⟩) (World.block_lt_of_cell? _ _ h.l)).trans h.l, fun i hi => by
    obtain ⟨b, off, h1, h2⟩ := h.at_ i hi
    exact ⟨b, off, h1, (hb.cell (p := ⟨b, off + i, none⟩) (World.block_lt_of_cell? _ _ h2)).trans h2⟩⟩
theorem SumRd.grown {Ba Bl : Nat} {ta : SV} {al : Option Addr} {nl cl : Nat} {bv : Nat → SV} {W W' : World} {row : Option Nat} (h : SumRd Ba Bl ta al nl cl bv W) (hg : W.grownBy W' row) (hr : ∀ r, row = some r → ∃ o : Obj, W.heap[r]? = some o ∧ o.isCells = false) : SumRd Ba Bl ta al nl cl bv W' :=
  ⟨cell_kept h.a hg hr, cell_kept h.l hg hr, fun i hi => by
    obtain ⟨b, off, h1, h2⟩ := h.at_ i hi
    exact ⟨b, off, h1, cell_kept h2 hg hr⟩⟩
theorem SumRd.only {Ba Bl : Nat} {ta : SV} {al : Option Addr} {nl cl : Nat} {bv : Nat → SV} {W W' : World} {g : Nat} (h : SumRd Ba Bl ta al nl cl bv W) (ho : Only (· = g) W W') (h1 : Ba ≠ g) (h2 : Bl ≠ g) (h3 : ∀ b off, al = some ⟨b, off, none⟩ → 0 < nl → b ≠ g) : SumRd Ba Bl ta al nl cl bv W' :=
  ⟨(ho.cell (p := ⟨Ba, 0, none⟩) (World.block_lt_of_cell? _ _ h.a) h1).trans h.a, (ho.cell (p := ⟨Bl, 0, none⟩) (World.block_lt_of_cell? _ _ h.l) h2).trans h.l, fun i hi => by
    obtain ⟨b, off, e1, e2⟩ := h.at_ i hi
    exact ⟨b, off, e1, (ho.cell (p := ⟨b, off + i, none⟩) (World.block_lt_of_cell? _ _ e2) (h3 b off e1 (by omega))).trans e2⟩⟩
def sumL' (ta : SV) (nl : Nat) (bv : Nat → SV) : List SV := ta :: (List.range nl).map bv
theorem sumL'_len (ta : SV) (nl : Nat) (bv : Nat → SV) : (sumL' ta nl bv).length = nl + 1 := by simp [sumL']
theorem sumL'_at {ta : SV} {nl j : Nat} {bv : Nat → SV} (h : j < nl) : (sumL' ta nl bv)[j + 1]? = some (bv j) := by
  unfold sumL'
  rw [List.getElem?_cons_succ, List.getElem?_map, List.getElem?_range h]; rfl
theorem summands_any (x : Option Addr) (m c : Nat) (y : Option Addr) (p q : Nat) (w : World) : Calls Tryz.prog 37 #[.slice x m c, .slice y p q] w fun e w' => e = .returned (.func (.func 61) #[] #[.pointer (some ⟨w.heap.size, 0, none⟩), .pointer (some ⟨w.heap.size + 1, 0, none⟩)]) ∧ (w.alloc (.cells #[.slice x m c] 22)).alloc (.cells #[.slice y p q] 66) = w' := by
  go_enter Tryz.func37, Tryz.ntmps37
  go_wp2_with fail
  go_ret
  exact ⟨rfl, rfl⟩
theorem eg_sum : ∀ args w, (callFunc 61 args).run Tryz.prog w = .ok (.enter 61 args) w := enters_of Tryz.func61 (by kernel_rfl) rfl
set_option maxHeartbeats 4000000 in
theorem sum_gives (n : Nat) (hn : 1 ≤ n) (Ba Bl : Nat) (ta : SV) (al : Option Addr) (nl cl : Nat) (bv : Nat → SV) (hl : nl ≤ 1000000000000) (hc : nl ≤ cl) :
    SeqX Fence.wide n Tryz.prog 61 #[.pointer (some ⟨Ba, 0, none⟩), .pointer (some ⟨Bl, 0, none⟩)] encS (sumL' ta nl bv) AbNew KpAny (fun _ W => SumRd Ba Bl ta al nl cl bv W) := by
  intro l J Jx W hR hAb hY h0
  have HR := Lib.hid hR
  have HY := Lib.hid hY
  obtain ⟨s1, s2, _⟩ := hR 0 W h0
  obtain ⟨fn, tmps, assign, body, hy, hRo⟩ := hY 0 ta W rfl h0
  rw [sumL'_len]
  unfold encS at hy
  unfold sv at s1
  clear hR hY hAb
  refine callsIn_of_wp Tryz.func61 rfl trivial ?_ rfl
  simp only [Tryz.ntmps61, List.size_toArray, List.length_cons, List.length_nil, Nat.reduceAdd, Nat.reduceSub, Array.replicate_succ, Array.replicate_zero, List.push_toArray, List.append_toArray, List.nil_append, List.cons_append]
  gi_wp2
  refine hRo.mono ?_
  rintro e W2 ⟨_, ⟨rfl, hJ2⟩ | ⟨rfl, hJ2⟩⟩
  · have HJ2 := Lib.hid hJ2
    have s3 := (HR.out _ _ hJ2).l
    clear hJ2 s1 s2 hy hRo h0
    gi_wp2
    gi_loopw [12] (fun s wr => ∃ j : Nat, j ≤ nl ∧ s = .int .i64 j ∧ Hid (J (j + 1) wr)) (fun s _ => nl - (intOf s).toNat)
    case atStart => exact ⟨0, Nat.zero_le _, rfl, HJ2⟩
    case round =>
      clear HJ2 s3
      obtain ⟨j, hj, rfl, HJ⟩ := hrel
      by_cases hlt : j < nl
      · obtain ⟨b, off, rfl, q⟩ := (HR.out _ _ HJ.out).at_ j hlt
        obtain ⟨fn, tmps, assign, body, hy, hRo⟩ := HY.out _ _ wr (sumL'_at hlt) HJ.out
        obtain ⟨t, ht⟩ : ∃ t, bv j = t := ⟨_, rfl⟩
        rw [ht] at q hy
        unfold sv at q
        unfold encS at hy
        have hlt2 : (j : Int) < nl := by omega
        clear ht
        gi_wp2
        refine hRo.mono ?_
        rintro e W3 ⟨_, ⟨rfl, hJ3⟩ | ⟨rfl, hJ3⟩⟩
        · have HJ3 := Lib.hid hJ3
          clear hJ3
          gi_wp2
          go_roundw
          case rel => exact ⟨j + 1, by omega, by go_num, HJ3⟩
          case measure => simp [intOf]; omega
        · have HJ3 := Lib.hid hJ3
          clear hJ3
          gi_wp2
          refine bodyPost_ret (results_none rfl _ _ _) rfl ?_
          exact ⟨⟨_, rfl⟩, .inr HJ3.out⟩
      · obtain rfl : nl = j := by omega
        gi_wp2
        go_end0
        exact ⟨⟨_, rfl⟩, .inl HJ.out⟩
  · have HJ2 := Lib.hid hJ2
    clear hJ2
    gi_wp2
    refine bodyPost_ret (results_none rfl _ _ _) rfl ?_
    exact ⟨⟨_, rfl⟩, .inr HJ2.out⟩
theorem keeps_only {W W' : World} {g m : Nat} {f : Nat → Int} (h : Only (· = g) W W') (hR : RowF W g m f) (hm : 0 < m) : KeepsOthers W W' :=
  ⟨h.size, fun k o hk ho => by
    by_cases e : k = g
    · subst e
      obtain ⟨o', ho', hc'⟩ := cells_of_cell (hR.1 0 hm)
      have ho' : W.heap[k]? = some o' := ho'
      rw [hk] at ho'
      cases ho'
      rw [ho] at hc'
      cases hc'
    · exact (h.block k (Array.getElem?_eq_some_iff.1 hk).1 e).trans hk⟩
theorem rowF_grown {W W' : World} {row : Option Nat} {g m : Nat} {h : Nat → Int} (H : RowF W g m h) (h0 : 0 < m) (hg : W.grownBy W' row) (hr : ∀ r, row = some r → ∃ o : Obj, W.heap[r]? = some o ∧ o.isCells = false) : RowF W' g m h :=
  have e : W'.heap[g]? = W.heap[g]? := by
    obtain ⟨o, ho, hc⟩ := cells_of_cell (H.1 0 h0)
    exact grownBy_keeps_cells hg hr ho hc
  ⟨fun j hj => (World.cell?_of_block e).trans (H.1 j hj), fun j => (World.frozen?_of_block (w := W) (a := ⟨g, j, none⟩) e).trans (H.2.1 j), Nat.lt_of_lt_of_le H.2.2 hg.size⟩
theorem box_only {W W' : World} {B g : Nat} {t : TypeId} {v : Value} (h : Boxed W B t v) (ho : Only (· = g) W W') (hne : B ≠ g) : Boxed W' B t v := (ho.block B h.lt hne).trans h
/-- Between two rounds: the columns. -/
structure AdI (w : World) (z : Nat) (ta : SV) (al : Option Addr) (nl cl : Nat) (bv : Nat → SV) (AL : List (List Int)) (k : Nat) (W : World) : Prop where
  below : Below w.heap.size w W
  r1 : Boxed W z 22 (.slice none 0 0)
  r2 : Boxed W (z + 1) 24 (.int .i64 0)
  cols : Boxed W (z + 1 + 1 + 1) 45 (.slice (some ⟨z + 1 + 1, 0, none⟩) 400 400)
  row : ∃ f, RowF W (z + 1 + 1) 400 f ∧ Lim (255 * k) f ∧ sumV f 400 = sumL (AL.take k)
  rd : SumRd (z + 1 + 1 + 1 + 1) (z + 1 + 1 + 1 + 1 + 1) ta al nl cl bv W
  ok : ∀ x ∈ AL.take k, rightB x = true
theorem AdI.own {w : World} {z : Nat} {ta : SV} {al : Option Addr} {nl cl : Nat} {bv : Nat → SV} {AL : List (List Int)} {B : Nat} (hB : w.heap.size ≤ B) : OwnFrom B (AdI w z ta al nl cl bv AL) := fun _ _ _ _ h hg hr =>
  have hc := fun r e => (hr r e).2
  ⟨below_grown h.below (Nat.le_refl _) hg fun r e => Nat.le_trans hB (hr r e).1, box_grown h.r1 hg hc, box_grown h.r2 hg hc, box_grown h.cols hg hc, by
    obtain ⟨f, h1, h2⟩ := h.row
    exact ⟨f, rowF_grown h1 (by decide) hg hc, h2⟩, h.rd.grown hg hc, h.ok⟩
theorem AdI.next {w : World} {z : Nat} {ta : SV} {al : Option Addr} {nl cl : Nat} {bv : Nat → SV} {AL : List (List Int)} {k : Nat} {W W' : World} (h : AdI w z ta al nl cl bv AL k W) (hb : Below W.heap.size W W') : AdI w z ta al nl cl bv AL k W' :=
  ⟨h.below.trans (hb.mono h.below.size), box_next h.r1 hb h.r1.lt, box_next h.r2 hb h.r2.lt, box_next h.cols hb h.cols.lt, by
    obtain ⟨f, h1, h2⟩ := h.row
    exact ⟨f, h1.next hb, h2⟩, h.rd.next hb, h.ok⟩
structure AdX (w : World) (z : Nat) (AL : List (List Int)) (c : Code) (W : World) : Prop where
  ret : c = .ret
  below : Below w.heap.size w W
  r1 : Boxed W z 22 (.slice none 0 0)
  r2 : Boxed W (z + 1) 24 (.int .i64 2)
  bad : ∃ x ∈ AL, rightB x = false
theorem AdX.own {w : World} {z : Nat} {AL : List (List Int)} {B : Nat} (hB : w.heap.size ≤ B) : OwnFrom B (AdX w z AL) := fun _ _ _ _ h hg hr =>
  have hc := fun r e => (hr r e).2
  ⟨h.ret, below_grown h.below (Nat.le_refl _) hg fun r e => Nat.le_trans hB (hr r e).1, box_grown h.r1 hg hc, box_grown h.r2 hg hc, h.bad⟩
theorem sv_of {N : Nat → Prop} {w : World} {v : Value} {xs : List Int} (h : Bts N w v xs) : ∃ t : SV, v = sv t := by
  obtain ⟨a, c, rfl, _⟩ := Bts.form h
  exact ⟨(a, xs.length, c), rfl⟩
set_option maxHeartbeats 8000000 in
theorem add_code {N : Nat → Prop} (v1 v2 : Value) (A : List Int) (Ls : List (List Int)) (w : World) (h1 : Bts N w v1 A) (b1 : Bytes A) (l1 : A.length ≤ 1000000000000) (h2 : BssAt w v2 Ls) (b2 : ∀ x ∈ Ls, Bytes x ∧ x.length ≤ 1000000000000) (l2 : Ls.length ≤ 1000000) : Calls Tryz.prog 18 #[v1, v2] w (NumB (addE A Ls) (addO A Ls) w) := by
  have hex : ∀ j, ∃ t : SV, ∀ hj : j < Ls.length, Bts (· < w.heap.size) w (sv t) Ls[j] ∧ ∃ b off c, v2 = .slice (some ⟨b, off, none⟩) Ls.length c ∧ w.cell? ⟨b, off + j, none⟩ = some (sv t) := fun j => by
    by_cases hj : j < Ls.length
    · obtain ⟨b, off, c, a2, c2, e, hc, hd⟩ := h2.at_ hj
      exact ⟨(a2, Ls[j].length, c2), fun _ => ⟨Bts.kind hd fun _ h _ => h, b, off, c, e, hc⟩⟩
    · exact ⟨(none, 0, 0), fun h => absurd h hj⟩
  obtain ⟨bv, hbv⟩ := Classical.skolem.1 hex
  clear hex
  obtain ⟨al, cl, rfl, hcl, _⟩ := h2
  obtain ⟨a1, c1, rfl, hc1⟩ := Bts.form h1
  obtain ⟨nl, enl⟩ : ∃ k, Ls.length = k := ⟨_, rfl⟩
  have HNL := Lib.hid enl
  have HBV := Lib.hid hbv
  have HX : Hid (∀ (k : Nat) (t : SV), (sumL' (a1, A.length, c1) nl bv)[k]? = some t → ∃ X, (A :: Ls)[k]? = some X ∧ Bts (· < w.heap.size) w (sv t) X ∧ Bytes X ∧ X.length ≤ 1000000000000) := Lib.hid fun k t ht => by
    cases k with
    | zero =>
      injection ht with ht
      subst ht
      exact ⟨A, rfl, Bts.kind h1 fun _ h _ => h, b1, l1⟩
    | succ j =>
      have hj : j < nl := by have := (List.getElem?_eq_some_iff.1 ht).1; rw [sumL'_len] at this; omega
      rw [sumL'_at hj] at ht
      injection ht with ht
      subst ht
      have hm : Ls[j] ∈ Ls := List.getElem_mem _
      exact ⟨Ls[j], by rw [List.getElem?_cons_succ, List.getElem?_eq_getElem (by omega)], (hbv j (by omega)).1, (b2 _ hm).1, (b2 _ hm).2⟩
  have HAL : Hid (∀ b off, al = some ⟨b, off, none⟩ → 0 < nl → b < w.heap.size) := Lib.hid fun b off e h0 => by
    obtain ⟨b', off', c', he, hc⟩ := (hbv 0 (by omega)).2
    injection he with e1 _ _
    rw [e] at e1
    injection e1 with e1
    injection e1 with e1 _
    rw [e1]
    exact World.block_lt_of_cell? _ _ hc
  have HAt : Hid (∀ w', Below w.heap.size w w' → ∀ j, j < nl → ∃ b off, al = some ⟨b, off, none⟩ ∧ w'.cell? ⟨b, off + j, none⟩ = some (sv (bv j))) := Lib.hid fun w' hb j hj => by
    obtain ⟨b', off', c', he, hc⟩ := (hbv j (by omega)).2
    injection he with e1 _ _
    exact ⟨b', off', e1, (hb.cell (p := ⟨b', off' + j, none⟩) (World.block_lt_of_cell? _ _ hc)).trans hc⟩
  obtain ⟨n1, en1⟩ : ∃ k, A.length = k := ⟨_, rfl⟩
  rw [enl] at hcl l2 ⊢
  rw [en1] at HX ⊢
  have HE : Hid ((allR A Ls → addE A Ls = setE (sumL (A :: Ls)) ∧ addO A Ls = setO (sumL (A :: Ls))) ∧ (¬ allR A Ls → addE A Ls = 2 ∧ addO A Ls = [])) := Lib.hid ⟨fun h => by
    have e : sumL (A :: Ls) = val A + sumL Ls := by simp [sumL]
    have h0 : 0 ≤ val A + sumL Ls := by
      have := val_nonneg b1
      have := sumL_nonneg (Ls := Ls) fun x hx => (b2 x hx).1
      omega
    obtain ⟨p1, p2⟩ := set_pos h0
    rw [e, p1, p2]
    exact add_yes h, add_not⟩
  unfold NumB
  obtain ⟨r, hr⟩ : ∃ r, addE A Ls = r := ⟨_, rfl⟩
  obtain ⟨O, hO⟩ : ∃ O, addO A Ls = O := ⟨_, rfl⟩
  rw [hr, hO] at HE ⊢
  have hmk : ∀ w' : World, (Instr.makeSlice 45 (.int .i64 400) (.int .i64 400)).run Tryz.prog w' = .ok (.slice (some ⟨w'.heap.size, 0, none⟩) 400 400) (w'.alloc (.cells (madeCells #[Value.int .i64 0] 400) 3)) := fun w' => mk_ints w' 400 (by decide)
  obtain ⟨z, hz⟩ : ∃ z, w.heap.size = z := ⟨_, rfl⟩
  clear h1 b1 l1 b2 hbv enl en1 hr hO hc1
  refine (callsIn_wide (n := 6)).1 (callsIn_of_wp_marks Tryz.func18 rfl trivial ?_ rfl)
  simp only [Tryz.ntmps18, List.size_toArray, List.length_cons, List.length_nil, Nat.reduceAdd, Nat.reduceSub, Array.replicate_succ, Array.replicate_zero, List.push_toArray, List.append_toArray, List.nil_append, List.cons_append]
  refine (wpIn_wide (n := 6)).2 ?_
  go_wp2_with (go_at_call 37; refine (summands_any _ _ _ _ _ _ _).mono ?_; rintro e w2 ⟨rfl, rfl⟩)
  obtain ⟨W0, hW0⟩ : ∃ W0, ((((((w.alloc (.cells #[.slice none 0 0] 22)).alloc (.cells #[.int .i64 0] 24)).alloc (.cells (madeCells #[Value.int .i64 0] 400) 3)).alloc (.cells #[.slice (some ⟨z + 1 + 1, 0, none⟩) 400 400] 45)).alloc (.cells #[.slice a1 n1 c1] 22)).alloc (.cells #[.slice al nl cl] 66)) = W0 := ⟨_, rfl⟩
  have HI0 : Hid (AdI w z (a1, n1, c1) al nl cl bv (A :: Ls) 0 W0) := Lib.hid (by
    have x1 := Boxed.new w 22 (.slice none 0 0)
    have x2 := Boxed.new (w.alloc (.cells #[.slice none 0 0] 22)) 24 (.int .i64 0)
    have x3 := Boxed.new (((w.alloc (.cells #[.slice none 0 0] 22)).alloc (.cells #[.int .i64 0] 24)).alloc (.cells (madeCells #[Value.int .i64 0] 400) 3)) 45 (.slice (some ⟨z + 1 + 1, 0, none⟩) 400 400)
    have x4 := Boxed.new ((((w.alloc (.cells #[.slice none 0 0] 22)).alloc (.cells #[.int .i64 0] 24)).alloc (.cells (madeCells #[Value.int .i64 0] 400) 3)).alloc (.cells #[.slice (some ⟨z + 1 + 1, 0, none⟩) 400 400] 45)) 22 (.slice a1 n1 c1)
    have x5 := Boxed.new (((((w.alloc (.cells #[.slice none 0 0] 22)).alloc (.cells #[.int .i64 0] 24)).alloc (.cells (madeCells #[Value.int .i64 0] 400) 3)).alloc (.cells #[.slice (some ⟨z + 1 + 1, 0, none⟩) 400 400] 45)).alloc (.cells #[.slice a1 n1 c1] 22)) 66 (.slice al nl cl)
    simp only [World.size_alloc, hz] at x1 x2 x3 x4 x5
    have R0 : RowF (((w.alloc (.cells #[.slice none 0 0] 22)).alloc (.cells #[.int .i64 0] 24)).alloc (.cells (madeCells #[Value.int .i64 0] 400) 3)) (z + 1 + 1) 400 (fun _ => 0) := by
      have hs : ((w.alloc (.cells #[.slice none 0 0] 22)).alloc (.cells #[.int .i64 0] 24)).heap.size = z + 1 + 1 := by simp [hz]
      rw [← hs]
      exact ⟨fun j hj => made_int _ 400 j hj, fun j => frozen_one _ _ _ _, by simp⟩
    have hb : Below w.heap.size w W0 := by rw [← hW0]; exact ((((((Below.refl _ w).alloc (Nat.le_refl _) _).alloc (by simp) _).alloc (by simp; omega) _).alloc (by simp; omega) _).alloc (by simp; omega) _).alloc (by simp; omega) _
    refine ⟨hb, ?_, ?_, ?_, ⟨fun _ => 0, ?_, lim_zero (by decide), by rw [sumV_zero]; rfl⟩, ⟨?_, ?_, fun j hj => HAt.out _ hb j hj⟩, fun x hx => by simp at hx⟩
    · rw [← hW0]; exact ((((x1.alloc _).alloc _).alloc _).alloc _).alloc _
    · rw [← hW0]; exact (((x2.alloc _).alloc _).alloc _).alloc _
    · rw [← hW0]; exact (x3.alloc _).alloc _
    · rw [← hW0]; exact ((R0.next (below_new _ _)).next (below_new _ _)).next (below_new _ _)
    · rw [← hW0]; exact (x4.alloc _).cell
    · rw [← hW0]; exact x5.cell)
  (try rw [hW0])
  have hs0 : W0.heap.size = z + 1 + 1 + 1 + 1 + 1 + 1 := by rw [← hW0]; simp [hz]
  have hzz : w.heap.size ≤ z := by omega
  clear hW0 hz hmk HAt HBV
  refine (wpIn_wide (n := 6)).1 (rangeFunc_x rfl (by decide) (gf := 61) (lb := #[.pointer (some ⟨z + 1 + 1 + 1 + 1, 0, none⟩), .pointer (some ⟨z + 1 + 1 + 1 + 1 + 1, 0, none⟩)]) rfl trivial eg_sum (sum_gives (6 - 1) (by decide) _ _ (a1, n1, c1) al nl cl bv (by omega) hcl) abNew_kept (fun _ _ _ _ _ _ => trivial) (fun _ _ _ _ _ _ => trivial) (by intro _; rfl)
    (AdI w z (a1, n1, c1) al nl cl bv (A :: Ls)) (AdX w z (A :: Ls)) (AdI.own (by omega)) (AdX.own (by omega)) (fun k A h => h.rd) (fun k A B h hab => h.next hab) HI0.out ?round ?done ?stop)
  case round =>
    have fr : Fence.wide.fn 16 := trivial
    have ft : Fence.wide.fn 26 := trivial
    rintro l k ⟨ta, tn, tc⟩ W hx
    obtain ⟨X, hX1, hX2, hX3, hX4⟩ := HX.out k _ hx
    have hk : k < nl + 1 := by have := (List.getElem?_eq_some_iff.1 hx).1; rwa [sumL'_len] at this
    have HV := Lib.hid hX2
    have HBy := Lib.hid hX3
    have HLe := Lib.hid hX4
    have HXk := Lib.hid hX1
    unfold sv at HV
    dsimp only at HV
    clear hx hX1 hX2 hX3 hX4 HI0
    simp only [encS]
    gi_wp2
    refine Asg.mk ?_
    intro W1 hI hsz
    have HI := Lib.hid hI
    have y3 := hI.cols.cell
    have y1 := hI.r1.cell
    have g1 := hI.r1.frozen
    have y2 := hI.r2.cell
    have g2 := hI.r2.frozen
    have hv1 : Bts (· < w.heap.size) W1 (.slice ta tn tc) X := Bts.only HV.out (F := fun b => w.heap.size ≤ b) ⟨hI.below.os, hI.below.tape, hI.below.output, hI.below.size, fun k hk _ => hI.below.block k hk⟩ (fun b h h2 => by omega)
    have C1 := Lib.hid (right_is (.slice ta tn tc) X W1 hv1 HLe.out)
    cases hrX : rightB X with
    | true =>
      rw [hrX] at C1
      have HT : Hid (Calls Tryz.prog 26 #[.slice (some ⟨z + 1 + 1, 0, none⟩) 400 400, .slice ta tn tc, .int .i64 1] W1 fun e w' => e = .returned (.tuple #[]) ∧ Hid (KeepsFrom W0.heap.size W1 w' ∧ True ∧ AdI w z (a1, n1, c1) al nl cl bv (A :: Ls) (k + 1) w')) := Lib.hid (by
        obtain ⟨f, hf1, hf2, hf3⟩ := hI.row
        have hXl := (right_len hrX).1
        refine (tally_code (z + 1 + 1) 0 400 400 400 f (255 * k) 1 _ X 1 W1 hf1 hv1 (fun b hb => by show b ≠ z + 1 + 1; have : b < w.heap.size := hb; omega) HBy.out hXl (Nat.le_refl _) (Nat.le_refl _) (by decide) hf2 (by decide) (by omega) (by omega)).mono ?_
        rintro e w' ⟨rfl, hr, ho⟩
        refine ⟨rfl, Lib.hid ⟨(keeps_only ho hf1 (by decide)).from _, trivial, ⟨hI.below.trans (ho.below (fun b hb e => by omega) hI.below.size), box_only hI.r1 ho (by omega), box_only hI.r2 ho (by omega), box_only hI.cols ho (by omega), ⟨_, hr, ?_, ?_⟩, hI.rd.only ho (by omega) (by omega) (fun b off e h0 => by have := HAL.out b off e h0; omega), ?_⟩⟩⟩
        · exact (lim_tally (K := 1) hf2 HBy.out (by decide)).mono (by omega)
        · rw [tally_all _ _ _ _ _ (by omega), hf3, take_snoc HXk.out, sumL_snoc]
          simp
        · intro x hx
          rw [take_snoc HXk.out] at hx
          rcases List.mem_append.1 hx with h | h
          · exact hI.ok x h
          · rw [List.mem_singleton] at h; rw [h]; exact hrX)
      clear hI hv1 HV HBy HLe HXk HI HX hrX
      gi_wp2_with (first | (gi_at_call 16; refine (CallsIn.inRound l (callsIn_wide.2 C1.out)).mono ?_; rintro e w5 ⟨rfl, rfl⟩) | (gi_at_call 26; refine (CallsIn.inRound l (callsIn_wide.2 HT.out)).mono ?_; rintro e w5 ⟨rfl, HN⟩))
      exact HN.out
    | false =>
      rw [hrX] at C1
      have HN : Hid (AdX w z (A :: Ls) .ret ((W1.setCell ⟨z, 0, none⟩ (.slice none 0 0)).setCell ⟨z + 1, 0, none⟩ (.int .i64 2))) := Lib.hid ⟨rfl, (hI.below.setCell (p := ⟨z, 0, none⟩) hzz _).setCell (p := ⟨z + 1, 0, none⟩) (by show w.heap.size ≤ z + 1; omega) _, (hI.r1.set _).other (by omega) _, (hI.r2.other (by omega) _).set _, ⟨X, List.mem_of_getElem? HXk.out, hrX⟩⟩
      clear hI hv1 HV HBy HLe HXk HI HX hrX
      gi_wp2_with (gi_at_call 16; refine (CallsIn.inRound l (callsIn_wide.2 C1.out)).mono ?_; rintro e w5 ⟨rfl, rfl⟩)
      exact ⟨((KeepsOthers.setCell _ _ _).trans (KeepsOthers.setCell _ _ _)).from _, trivial, HN.out⟩
  case done =>
    intro D W hD hI hK
    rw [sumL'_len] at hI
    have HI := Lib.hid hI
    have y3 := hI.cols.cell
    have y1 := hI.r1.cell
    have g1 := hI.r1.frozen
    have y2 := hI.r2.cell
    have g2 := hI.r2.frozen
    have hall : (A :: Ls).take (nl + 1) = A :: Ls := List.take_of_length_le (by rw [List.length_cons, HNL.out]; exact Nat.le_refl _)
    have hok := hI.ok
    rw [hall] at hok
    have hr : allR A Ls := ⟨hok A (by simp), fun x hx => hok x (by simp [hx])⟩
    obtain ⟨e1, e2⟩ := HE.out.1 hr
    have HS : Hid (Calls Tryz.prog 21 #[.slice (some ⟨z + 1 + 1, 0, none⟩) 400 400] W fun e w' => ∃ x m c, e = .returned (.tuple #[.slice x m c, .int .i64 r]) ∧ Hid (Bts (W.heap.size ≤ ·) w' (.slice x m c) O) ∧ Hid (Below W.heap.size W w')) := Lib.hid (by
      obtain ⟨f, hf1, hf2, hf3⟩ := hI.row
      rw [hall] at hf3
      have C := settle_code (z + 1 + 1) 400 f W hf1 (hf2.s (by omega)) (by decide)
      rw [hf3] at C
      refine C.mono ?_
      rintro e w' ⟨v, rfl, hv, hb⟩
      rw [← e2] at hv
      obtain ⟨x, c, rfl, _⟩ := Bts.form hv
      exact ⟨x, _, c, by rw [e1], Lib.hid hv, Lib.hid hb⟩)
    have HKD := Lib.hid hK
    have HW5 : Hid (∀ w5, Below W.heap.size W w5 → w5.cell? ⟨z, 0, none⟩ = some (.slice none 0 0) ∧ w5.frozen? ⟨z, 0, none⟩ = false ∧ w5.cell? ⟨z + 1, 0, none⟩ = some (.int .i64 0) ∧ w5.frozen? ⟨z + 1, 0, none⟩ = false) := Lib.hid fun w5 hb =>
      ⟨(box_next HI.out.r1 hb HI.out.r1.lt).cell, (box_next HI.out.r1 hb HI.out.r1.lt).frozen, (box_next HI.out.r2 hb HI.out.r2.lt).cell, (box_next HI.out.r2 hb HI.out.r2.lt).frozen⟩
    have hDlt := (Array.getElem?_eq_some_iff.1 hK).1
    have hzlt := HI.out.r1.lt
    clear hI hok hall hr e1 e2 HI0 HX HE
    go_wp2_with (go_at_call 21; refine HS.out.mono ?_; rintro e w5 ⟨x, m, c, rfl, HV, HB⟩; obtain ⟨t1, t2, t3, t4⟩ := HW5.out w5 HB.out)
    have hk5 : w5.heap[D]? = some (.deferred (some [])) := (HB.out.block D hDlt).trans HKD.out
    have hk1 := ((KeepsOthers.setCell w5 ⟨z, 0, none⟩ (.slice x m c)).trans (KeepsOthers.setCell _ ⟨z + 1, 0, none⟩ (.int .i64 r))).same D _ hk5 rfl
    refine ⟨by simp, .inl ⟨_, _, rfl, run_takeDeferred hk1, ?_⟩⟩
    have b1 := box_next HI.out.r1 HB.out HI.out.r1.lt
    have b2 := box_next HI.out.r2 HB.out HI.out.r2.lt
    have y1' := cell_end hk1 rfl (.deferred none) ((b1.set (.slice x m c)).other (B' := z + 1) (by omega) (.int .i64 r)).cell
    have y2' := cell_end hk1 rfl (.deferred none) ((b2.other (B' := z) (by omega) (.slice x m c)).set (.int .i64 r)).cell
    have o1 : Only (fun b => b = z ∨ b = z + 1) w5 ((w5.setCell ⟨z, 0, none⟩ (.slice x m c)).setCell ⟨z + 1, 0, none⟩ (.int .i64 r)) := ((Only.refl (fun b => b = z ∨ b = z + 1) w5).setCell ⟨z, 0, none⟩ (.inl (.inl rfl)) _).setCell ⟨z + 1, 0, none⟩ (.inl (.inr rfl)) _
    have hz1lt := HI.out.r2.lt
    refine ⟨.tuple #[.slice x m c, .int .i64 r], ?_, _, rfl, ?_, ?_⟩
    · simp [results, Tryz.f18, go_sem, y1', y2']
    · exact Bts.kind (vals_grown (Bts.only HV.out o1 (fun b h1 h2 => by omega)) (grownBy_putObj' _ D (.deferred none)) (fun r e => by cases e; exact ⟨_, hk1, rfl⟩)) fun _ _ _ => trivial
    · exact below_end D _ (((HI.out.below.trans (HB.out.mono HI.out.below.size)).setCell (p := ⟨z, 0, none⟩) hzz _).setCell (p := ⟨z + 1, 0, none⟩) (by show w.heap.size ≤ z + 1; omega) _) (by omega) hk1 _
  case stop =>
    rintro D c W hD hX hK
    obtain ⟨rfl, hb, c1, c2, x, hx1, hx2⟩ := hX
    have hn : ¬ allR A Ls := fun h => by
      rcases List.mem_cons.1 hx1 with e | e
      · rw [e, h.1] at hx2; cases hx2
      · rw [h.2 x e] at hx2; cases hx2
    have HEq := Lib.hid (HE.out.2 hn)
    have y1 := cell_end hK rfl (.deferred none) c1.cell
    have y2 := cell_end hK rfl (.deferred none) c2.cell
    refine (wpIn_wide (n := 6)).2 ?_
    clear HI0 HE
    go_wp2_with fail
    refine ⟨by simp, .inl ⟨_, _, rfl, run_takeDeferred hK, ?_⟩⟩
    refine ⟨.tuple #[.slice none 0 0, .int .i64 2], ?_, _, by rw [HEq.out.1], by rw [HEq.out.2]; exact bts_nil _ _, below_end D _ hb (by omega) hK _⟩
    simp [results, Tryz.f18, go_sem, y1, y2]
end Go.Proofs.YtbfacdfmanffdaaGreatDoor
