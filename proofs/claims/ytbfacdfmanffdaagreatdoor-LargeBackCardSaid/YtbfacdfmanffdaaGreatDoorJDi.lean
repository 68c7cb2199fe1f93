/- Package large's Div. -/
import Derived.Test.YtbfacdfmanffdaaGreatDoorJCu
namespace Go.Proofs.YtbfacdfmanffdaaGreatDoor
set_option maxRecDepth 1000000
open Go.ChangeShapes Go.WideShapes Go.ChangeAt Go.RowKit Go.Shelf
attribute [local go_sem] Oper.semAt_some

theorem listIn_append_eq {F : Fence} {n : Nat} {P : Program} (w : World) {ops : Array Oper} {rest : List Oper} {o : Oper} {a : Act} {Q : Exit → Act → World → Prop} (hg : o.guard = none) (s x : Operand) (t : TypeId)
    (hop : o.op = Op.call { callee := Callee.builtin Builtin.append, args := #[s, x], argTypes := #[t, t] }) (vs vx v' : Value) (w' : World) (hs : a.eval s = vs) (hx : a.eval x = vx)
    (hrun : (Builtin.append_ #[t, t] o.type #[vs, vx]).run P w = .ok v' w') (hK : wpListIn F n P ops Q rest (a.put o.dst v') w') : wpListIn F n P ops Q (o :: rest) a w := by
  refine wpListIn_plain hg fun K hK' => ?_
  unfold Oper.wpIn
  refine ⟨?_, ?_⟩
  · simp [Oper.about, hop, resolve, Target.leads, Sem.run_pure]
  · rw [Oper.semAt_plain F _ _ (by rw [hop]; intro c hc'; cases hc')]
    simp [execOp, hop, resolve, invoke, builtin, hs, hx, hrun, Result.andThen]
    exact hK' _ _ hK
/-- Between two rounds: the quotient's digits from above, what is left. -/
structure DiI (w : World) (z : Nat) (vb : Value) (a : Option Addr) (c : Nat) (A : List Int) (VB : Int) (L : Nat) (k : Nat) (W : World) : Prop where
  below : Below w.heap.size w W
  arg : Boxed W z 22 vb
  quo : Boxed W (z + 1 + 1) 22 (.slice (some ⟨z + 1, 0, none⟩) L L)
  row : 0 < L → ∃ h : Nat → Int, RowB W (z + 1) L h ∧ (∀ j, 0 ≤ h j ∧ h j ≤ 255) ∧ topV h (L - k) L = val (A.drop (L - k)) / VB
  rest : ∃ x m c, Boxed W (z + 1 + 1 + 1) 22 (.slice x m c) ∧ Bts (z + 1 + 1 + 1 < ·) W (.slice x m c) (dig (val (A.drop (L - k)) % VB).toNat)
  rd : BackRd (z + 1 + 1 + 1 + 1) a c A L k W
theorem rowB_grown {W W' : World} {row : Option Nat} {g m : Nat} {h : Nat → Int} (H : RowB W g m h) (h0 : 0 < m) (hg : W.grownBy W' row) (hr : ∀ r, row = some r → ∃ o : Obj, W.heap[r]? = some o ∧ o.isCells = false) : RowB W' g m h :=
  have e : W'.heap[g]? = W.heap[g]? := by
    obtain ⟨o, ho, hc⟩ := cells_of_cell (H.1 0 h0)
    exact grownBy_keeps_cells hg hr ho hc
  ⟨fun j hj => (World.cell?_of_block e).trans (H.1 j hj), fun j => (World.frozen?_of_block (w := W) (a := ⟨g, j, none⟩) e).trans (H.2.1 j), Nat.lt_of_lt_of_le H.2.2 hg.size⟩
theorem vals_grown {W W' : World} {row : Option Nat} {N : Nat → Prop} {v : Value} {xs : List Int} (h : Bts N W v xs) (hg : W.grownBy W' row) (hr : ∀ r, row = some r → ∃ o : Obj, W.heap[r]? = some o ∧ o.isCells = false) : Bts N W' v xs := by
  obtain ⟨a, c, rfl, hc, h⟩ := h
  exact ⟨a, c, rfl, hc, h.imp id fun ⟨b, off, ha, hb, h⟩ => ⟨b, off, ha, hb, fun j u hu => cell_kept (h j u hu) hg hr⟩⟩
theorem DiI.own {w : World} {z : Nat} {vb : Value} {a : Option Addr} {c : Nat} {A : List Int} {VB : Int} {L B : Nat} (hB : w.heap.size ≤ B) : OwnFrom B (DiI w z vb a c A VB L) := fun _ _ _ _ h hg hr =>
  have hc := fun r e => (hr r e).2
  ⟨below_grown h.below (Nat.le_refl _) hg fun r e => Nat.le_trans hB (hr r e).1, box_grown h.arg hg hc, box_grown h.quo hg hc, fun h0 => by
    obtain ⟨f, h1, h2⟩ := h.row h0
    exact ⟨f, rowB_grown h1 h0 hg hc, h2⟩, by
    obtain ⟨x, m, c', h1, h2⟩ := h.rest
    exact ⟨x, m, c', box_grown h1 hg hc, vals_grown h2 hg hc⟩, h.rd.grown hg hc⟩
theorem DiI.next {w : World} {z : Nat} {vb : Value} {a : Option Addr} {c : Nat} {A : List Int} {VB : Int} {L k : Nat} {W W' : World} (h : DiI w z vb a c A VB L k W) (hb : Below W.heap.size W W') : DiI w z vb a c A VB L k W' :=
  ⟨h.below.trans (hb.mono h.below.size), box_next h.arg hb h.arg.lt, box_next h.quo hb h.quo.lt, fun h0 => by
    obtain ⟨f, h1, h2⟩ := h.row h0
    exact ⟨f, h1.next hb, h2⟩, by
    obtain ⟨x, m, c', h1, h2⟩ := h.rest
    exact ⟨x, m, c', box_next h1 hb h1.lt, h2.next hb⟩, h.rd.next hb⟩
theorem right_ends {bs : List Int} (h : rightB bs = true) : Bare bs := by
  intro d hd
  rcases (right_len h).2 with h0 | h0
  · subst h0; cases hd
  · rw [List.getLast?_eq_getElem?] at hd
    unfold dgt at h0
    rw [List.getD, hd] at h0
    exact h0
theorem emod_le {a b : Int} (h0 : 0 ≤ a) (hb : 0 < b) : a % b ≤ a := by
  by_cases h : a < b
  · rw [Int.emod_eq_of_lt h0 h]; exact Int.le_refl _
  · have := Int.emod_lt_of_pos a hb; omega
theorem div_next {V T R X D d VB : Int} (hT : V / VB = T) (hR : V % VB = R) (hX : d + 256 * R = X) (hD : X / VB = D) (hVB : 0 < VB) : (d + 256 * V) / VB = D + 256 * T ∧ (d + 256 * V) % VB = X % VB := by
  have h1 := Int.emod_add_mul_ediv V VB
  rw [hT, hR] at h1
  have e : d + 256 * V = X + VB * (256 * T) := by rw [← h1, Int.mul_left_comm]; omega
  rw [e, Int.add_mul_ediv_left _ _ (by omega), Int.add_mul_emod_self_left, hD]
  exact ⟨rfl, rfl⟩
theorem rowB_other {W : World} {g m b : Nat} {f : Nat → Int} (H : RowB W g m f) (h : g ≠ b) (v : Value) : RowB (W.setCell ⟨b, 0, none⟩ v) g m f :=
  ⟨fun j hj => (World.cell?_setCell_other _ _ _ _ (by intro e; injection e with e; first | exact h e | exact h e.symm)).trans (H.1 j hj), fun j => by rw [World.frozen?_setCell]; exact H.2.1 j, by simpa [World.setCell] using H.2.2⟩
theorem box_cell {W : World} {B g j : Nat} {t : TypeId} {v : Value} (h : Boxed W B t v) (hne : B ≠ g) (u : Value) : Boxed (W.setCell ⟨g, j, none⟩ u) B t v := (Below.heap_setCell W ⟨g, j, none⟩ u B (by exact hne)).trans h
theorem BackRd.setC {Bs : Nat} {a : Option Addr} {c : Nat} {A : List Int} {L k : Nat} {W : World} {g j : Nat} {u' : Value} (h : BackRd Bs a c A L k W) (hne : Bs ≠ g) (ha : ∀ b off, a = some ⟨b, off, none⟩ → b ≠ g) : BackRd Bs a c A L k (W.setCell ⟨g, j, none⟩ u') :=
  ⟨(World.cell?_of_block (w := W) (Below.heap_setCell W ⟨g, j, none⟩ u' Bs (by exact hne))).trans h.1, fun i hi => by
    obtain ⟨b, off, h1, h2⟩ := h.2 i hi
    exact ⟨b, off, h1, (World.cell?_of_block (w := W) (a := ⟨b, off + i, none⟩) (Below.heap_setCell W ⟨g, j, none⟩ u' b (by exact ha b off h1))).trans h2⟩⟩
theorem keeps_below {W W' : World} (h : Below W.heap.size W W') : KeepsOthers W W' := ⟨h.size, fun k _ hk _ => (h.block k (Array.getElem?_eq_some_iff.1 hk).1).trans hk⟩
theorem nox_own {B : Nat} : OwnFrom B (fun (_ : Code) (_ : World) => False) := fun _ _ _ _ h _ _ => h
set_option maxHeartbeats 8000000 in
theorem div_go {N M : Nat → Prop} (v1 v2 : Value) (A B : List Int) (w : World) (h1 : Bts N w v1 A) (b1 : Bytes A) (h2 : Bts M w v2 B) (b2 : Bytes B) (hr1 : rightB A = true) (hr2 : rightB B = true) (hB : B ≠ []) :
    Calls Tryz.prog 19 #[v1, v2] w fun e w' => ∃ q r, e = .returned (.tuple #[q, r, .int .i64 0]) ∧ Bts (fun _ => True) w' q (dig (val A / val B).toNat) ∧ Bts (fun _ => True) w' r (dig (val A % val B).toNat) ∧ Below w.heap.size w w' := by
  have q1 := (right_len hr1).1
  have q2 := (right_len hr2).1
  have rB : Bare B := right_ends hr2
  have hVB := right_bare b2 hr2 hB
  have HV1 : Hid (Bts (· < w.heap.size) w v1 A) := Lib.hid (Bts.kind h1 fun b h _ => h)
  have HV2 : Hid (Bts (· < w.heap.size) w v2 B) := Lib.hid (Bts.kind h2 fun b h _ => h)
  have HB1 := Lib.hid b1
  have HB2 := Lib.hid b2
  have HRB := Lib.hid rB
  have HNE := Lib.hid hB
  have C1 : Hid (∀ w', Below w.heap.size w w' → Calls Tryz.prog 16 #[v1] w' fun e w'' => e = .returned (.bool true) ∧ w' = w'') := Lib.hid fun w' hb => by have := right_is v1 A w' (h1.next hb) (by omega); rwa [hr1] at this
  have C2 : Hid (∀ w', Below w.heap.size w w' → Calls Tryz.prog 16 #[v2] w' fun e w'' => e = .returned (.bool true) ∧ w' = w'') := Lib.hid fun w' hb => by have := right_is v2 B w' (h2.next hb) (by omega); rwa [hr2] at this
  obtain ⟨a1, c1, rfl, hc1⟩ := Bts.form h1
  obtain ⟨a2, c2, rfl, hc2⟩ := Bts.form h2
  have hB0 : 0 < B.length := List.length_pos_iff.2 hB
  obtain ⟨L, e1⟩ : ∃ k, A.length = k := ⟨_, rfl⟩
  obtain ⟨n2, e2⟩ : ∃ k, B.length = k := ⟨_, rfl⟩
  rw [e1] at HV1 C1 hc1 q1 ⊢
  rw [e2] at HV2 C2 hc2 q2 hB0 ⊢
  have HL := Lib.hid e1
  have HN2 := Lib.hid e2
  obtain ⟨VB, eVB⟩ : ∃ V, val B = V := ⟨_, rfl⟩
  have HEB := Lib.hid eVB
  rw [eVB] at hVB ⊢
  have hn0 : ((n2 : Int) == 0) = false := by rw [beq_eq_false_iff_ne]; omega
  have hmk := fun w' : World => mk_bytes w' L (by omega)
  obtain ⟨z, hz⟩ : ∃ z, w.heap.size = z := ⟨_, rfl⟩
  have K1 : Hid (Below w.heap.size w (w.alloc (.cells #[.slice a2 n2 c2] 22))) := Lib.hid (below_new w _)
  clear h1 h2 b1 b2 rB hB e1 e2 hr1 hr2 eVB
  refine (callsIn_wide (n := 6)).1 (callsIn_of_wp_marks Tryz.func19 rfl trivial ?_ rfl)
  simp only [Tryz.ntmps19, List.size_toArray, List.length_cons, List.length_nil, Nat.reduceAdd, Nat.reduceSub, Array.replicate_succ, Array.replicate_zero, List.push_toArray, List.append_toArray, List.nil_append, List.cons_append]
  refine (wpIn_wide (n := 6)).2 ?_
  go_upto_region 5 with (first | (go_at_call 16; with_reducible refine (C1.out _ K1.out).mono ?_; rintro e w2 ⟨rfl, rfl⟩; clear C1) | (go_at_call 16; with_reducible refine (C2.out _ K1.out).mono ?_; rintro e w2 ⟨rfl, rfl⟩))
  go_wp2_with (go_at_call 22; refine (back_any _ _ _ _).mono ?_; rintro e w2 ⟨rfl, rfl⟩)
  obtain ⟨W0, hW0⟩ : ∃ W0, (((((w.alloc (.cells #[.slice a2 n2 c2] 22)).alloc (.cells (madeCells #[Value.int .u8 0] L) 5)).alloc (.cells #[.slice (some ⟨z + 1, 0, none⟩) L L] 22)).alloc (.cells #[.slice none 0 0] 22)).alloc (.cells #[.slice a1 L c1] 22)) = W0 := ⟨_, rfl⟩
  have e0 : A.drop (L - 0) = [] := List.drop_of_length_le (by rw [HL.out]; omega)
  have HI0 : Hid (DiI w z (.slice a2 n2 c2) a1 c1 A VB L 0 W0) := Lib.hid (by
    have x1 := Boxed.new w 22 (.slice a2 n2 c2)
    have x2 := Boxed.new ((w.alloc (.cells #[.slice a2 n2 c2] 22)).alloc (.cells (madeCells #[Value.int .u8 0] L) 5)) 22 (.slice (some ⟨z + 1, 0, none⟩) L L)
    have x3 := Boxed.new (((w.alloc (.cells #[.slice a2 n2 c2] 22)).alloc (.cells (madeCells #[Value.int .u8 0] L) 5)).alloc (.cells #[.slice (some ⟨z + 1, 0, none⟩) L L] 22)) 22 (.slice none 0 0)
    have x4 := Boxed.new ((((w.alloc (.cells #[.slice a2 n2 c2] 22)).alloc (.cells (madeCells #[Value.int .u8 0] L) 5)).alloc (.cells #[.slice (some ⟨z + 1, 0, none⟩) L L] 22)).alloc (.cells #[.slice none 0 0] 22)) 22 (.slice a1 L c1)
    simp only [World.size_alloc, hz] at x1 x2 x3 x4
    have R0 : RowB ((w.alloc (.cells #[.slice a2 n2 c2] 22)).alloc (.cells (madeCells #[Value.int .u8 0] L) 5)) (z + 1) L (fun _ => 0) := by
      have hs : (w.alloc (.cells #[.slice a2 n2 c2] 22)).heap.size = z + 1 := by simp [hz]
      rw [← hs]
      exact ⟨fun j hj => made_byte _ L j hj, fun j => frozen_one _ _ _ _, by simp⟩
    have hb : Below w.heap.size w W0 := by rw [← hW0]; exact (((((Below.refl _ w).alloc (Nat.le_refl _) _).alloc (by simp) _).alloc (by simp; omega) _).alloc (by simp; omega) _).alloc (by simp; omega) _
    refine ⟨hb, ?_, ?_, fun _ => ⟨fun _ => 0, ?_, fun _ => ⟨Int.le_refl 0, (by decide : (0 : Int) ≤ 255)⟩, ?_⟩, ⟨none, 0, 0, ?_, ?_⟩, ⟨?_, fun i hi => ?_⟩⟩
    · rw [← hW0]; exact (((x1.alloc _).alloc _).alloc _).alloc _
    · rw [← hW0]; exact (x2.alloc _).alloc _
    · rw [← hW0]; exact ((R0.next (below_new _ _)).next (below_new _ _)).next (below_new _ _)
    · rw [e0, Nat.sub_zero, topV_end]; exact (Int.zero_ediv _).symm
    · rw [← hW0]; exact x3.alloc _
    · rw [e0]
      show Bts _ W0 _ (dig ((0 : Int) % VB).toNat)
      rw [Int.zero_emod, show (0 : Int).toNat = 0 from rfl, dig_zero]; exact bts_nil _ _
    · rw [← hW0]; exact x4.cell
    · obtain ⟨b, o, c', he, _, hlt, _, h⟩ := bts_cells HV1.out (by rw [HL.out]; omega)
      injection he with e _ _
      exact ⟨b, o, e, (hb.cell (p := ⟨b, o + i, none⟩) hlt).trans (h i (by rw [HL.out]; omega))⟩)
  (try rw [hW0])
  have hs0 : W0.heap.size = z + 1 + 1 + 1 + 1 + 1 := by rw [← hW0]; simp [hz]
  have HZ := Lib.hid hz.symm
  have hzz : w.heap.size ≤ z := by omega
  have HA1 : Hid (∀ b off, a1 = some ⟨b, off, none⟩ → 0 < L → b < z) := Lib.hid fun b off e h0 => by
    obtain ⟨b', off', c', he, _, hlt, _, _⟩ := bts_cells HV1.out (by rw [HL.out]; exact h0)
    injection he with e1 _ _
    rw [e] at e1
    injection e1 with e1
    injection e1 with e1 _
    omega
  clear hW0 hz K1 HV1 hmk hn0 e0
  refine (wpIn_wide (n := 6)).1 (rangeFunc_x rfl (by decide) (gf := 41) (lb := #[.pointer (some ⟨z + 1 + 1 + 1 + 1, 0, none⟩)]) rfl trivial eg_back (back_gives (6 - 1) (by decide) _ a1 c1 A L (by omega) hc1) abNew_kept (fun _ _ _ _ _ _ => trivial) (fun _ _ _ _ _ _ => trivial) (fun _ => rfl)
    (DiI w z (.slice a2 n2 c2) a1 c1 A VB L) (fun _ _ => False) (DiI.own (by omega)) nox_own (fun k A h => h.rd) (fun k A B h hab => h.next hab) HI0.out ?round ?done ?stop)
  case round =>
    have ft : Fence.wide.fn 38 := trivial
    have fc : Fence.wide.fn 39 := trivial
    rintro l k ⟨i, d⟩ W hx
    obtain ⟨hk, he⟩ := backL_is hx
    injection he with he1 he2
    rw [← he1] at he2
    have hik : L - k = i + 1 := by omega
    have hd := dgt_rng HB1.out i
    rw [← he2] at hd
    have HIK : Hid (L - k = i + 1 ∧ L - (k + 1) = i) := Lib.hid ⟨hik, by omega⟩
    have hi : i < L := by omega
    have HD := Lib.hid he2
    clear hx he1 he2 hik hk HI0
    simp only [encB]
    gi_wp2
    refine Asg.mk ?_
    intro W1 hI hsz
    have HI := Lib.hid hI
    obtain ⟨x, m, c, hbx, hrest⟩ := hI.rest
    obtain ⟨R, hR⟩ : ∃ R, val (A.drop (L - k)) % VB = R := ⟨_, rfl⟩
    rw [hR] at hrest
    have hR0 : 0 ≤ R := by rw [← hR]; exact Int.emod_nonneg _ (by omega)
    have hR1 : R < VB := by rw [← hR]; exact Int.emod_lt_of_pos _ hVB
    have HRR := Lib.hid hR
    obtain ⟨hd0, hd1⟩ := hd
    have O1 := ownB1 W1 d
    have RE2 := hrest.next (below_new W1 (.cells #[.int .u8 d] 5))
    have hlR : (dig R.toNat).length ≤ 400 := by
      rw [dig_len, Int.toNat_of_nonneg hR0]
      have h1 := val_lt HB2.out
      rw [HEB.out, HN2.out] at h1
      have h2 : (256 : Int) ^ n2 ≤ 256 ^ 400 := pow_le256 q2
      omega
    obtain ⟨v3, W3, hrun, ho3, hgrow⟩ := append_bts O1 RE2 (by simp; omega) (by simp) 22
    have hK3 : Below W1.heap.size W1 W3 := (below_new W1 _).trans ((Below.refl _ _).grown hgrow (by simp) fun g hg => by have := (World.ownsRow.lt O1 g hg).1; omega)
    obtain ⟨x3, c3, rfl⟩ : ∃ x c, v3 = .slice x ([d] ++ dig R.toNat).length c := own_form ho3
    have hdb : Bytes ([d] ++ dig R.toNat) := fun n hn => by
      rcases List.mem_append.1 hn with h | h
      · rw [List.mem_singleton] at h; omega
      · exact dig_bytes _ n h
    obtain ⟨n3, hn3⟩ : ∃ n, ([d] ++ dig R.toNat).length = n := ⟨_, rfl⟩
    have hXv : val ([d] ++ dig R.toNat) = d + 256 * R := val_cons_dig d R hR0
    obtain ⟨X, hX⟩ : ∃ X, d + 256 * R = X := ⟨_, rfl⟩
    rw [hX] at hXv
    have hX0 : 0 ≤ X := by omega
    have hX1 : X < 256 * VB := by omega
    have HT := trim_is x3 n3 c3 _ W3 (by rw [← hn3]; exact ho3.bts) hdb (by rw [List.length_append]; simp; omega)
    have hK4 := trimK_take hdb
    have hk4 := trimK_le hdb
    rw [hn3] at hk4
    obtain ⟨k4, hk4e⟩ : ∃ k, trimK ([d] ++ dig R.toNat) = k := ⟨_, rfl⟩
    rw [hk4e] at HT hK4 hk4
    rw [hXv] at hK4
    have RE3 : Bts (W1.heap.size ≤ ·) W3 (.slice x3 k4 c3) (dig X.toNat) := by
      have := Bts.take (k := k4) ho3.bts (by omega) rfl
      rwa [hK4] at this
    rw [hn3] at hrun
    have HRUN := Lib.hid hrun
    have HTT := Lib.hid HT
    have hsz1 : z + 1 + 1 + 1 + 1 < W1.heap.size := by omega
    have b3 := box_next hbx hK3 hbx.lt
    have y3 := b3.cell
    have g3 := b3.frozen
    have y2 := (box_next hI.quo hK3 hI.quo.lt).cell
    have y1 := (box_next hI.arg hK3 hI.arg.lt).cell
    have yr := hbx.cell
    have yr2 := (hbx.alloc (.cells #[.int .u8 d] 5)).cell
    clear hI hR hrun HT O1 RE2 hlR hdb hn3 hk4e hK4
    gi_wp2_with (first | (gi_at_builtin; refine listIn_append_eq _ rfl _ _ 22 rfl _ _ _ _ rfl rfl HRUN.out ?_) | (gi_at_call 38; refine (CallsIn.inRound l (callsIn_wide.2 HTT.out)).mono ?_; rintro e w5 ⟨rfl, rfl⟩))
    obtain ⟨W4, hW4⟩ : ∃ W4, W3.setCell ⟨z + 1 + 1 + 1, 0, none⟩ (.slice x3 k4 c3) = W4 := ⟨_, rfl⟩
    rw [hW4]
    have hs4 : W4.heap.size = W3.heap.size := by rw [← hW4]; simp [World.setCell]
    have hs3 := hK3.size
    have p3 : Boxed W4 (z + 1 + 1 + 1) 22 (.slice x3 k4 c3) := by rw [← hW4]; exact b3.set _
    have p2 : Boxed W4 (z + 1 + 1) 22 (.slice (some ⟨z + 1, 0, none⟩) L L) := by rw [← hW4]; exact (box_next HI.out.quo hK3 HI.out.quo.lt).other (by omega) _
    have p1 : Boxed W4 z 22 (.slice a2 n2 c2) := by rw [← hW4]; exact (box_next HI.out.arg hK3 HI.out.arg.lt).other (by omega) _
    have ho4 : Only (fun b => b = z + 1 + 1 + 1) W3 W4 := by rw [← hW4]; exact (Only.refl (fun b => b = z + 1 + 1 + 1) W3).setCell ⟨z + 1 + 1 + 1, 0, none⟩ (.inl rfl) _
    have hB4 : Below w.heap.size w W4 := by
      rw [← hW4]
      exact (HI.out.below.trans (hK3.mono HI.out.below.size)).setCell (p := ⟨z + 1 + 1 + 1, 0, none⟩) (by show w.heap.size ≤ z + 1 + 1 + 1; omega) _
    have hR4 : ∃ h : Nat → Int, RowB W4 (z + 1) L h ∧ (∀ j, 0 ≤ h j ∧ h j ≤ 255) ∧ topV h (L - k) L = val (A.drop (L - k)) / VB := by
      obtain ⟨h, r1, r2⟩ := HI.out.row (by omega)
      have r3 := r1.next hK3
      exact ⟨h, ⟨fun j hj => (ho4.cell (p := ⟨z + 1, j, none⟩) (by show z + 1 < W3.heap.size; omega) (by show ¬ z + 1 = z + 1 + 1 + 1; omega)).trans (r3.1 j hj), fun j => (ho4.frozen (p := ⟨z + 1, j, none⟩) (by show z + 1 < W3.heap.size; omega) (by show ¬ z + 1 = z + 1 + 1 + 1; omega)).trans (r3.2.1 j), by omega⟩, r2⟩
    have hRd4 : BackRd (z + 1 + 1 + 1 + 1) a1 c1 A L k W4 := by rw [← hW4]; exact (HI.out.rd.next hK3).setS b3 (by omega) rfl
    have RE4 : Bts (W1.heap.size ≤ ·) W4 (.slice x3 k4 c3) (dig X.toNat) := Bts.only RE3 ho4 (fun b hb e => by omega)
    have HCU : Hid (Calls Tryz.prog 39 #[.slice x3 k4 c3, .slice a2 n2 c2] W4.drew fun e w'' => ∃ x m c, e = .returned (.tuple #[.int .u8 (X / VB), .slice x m c]) ∧ Bts (z + 1 + 1 + 1 < ·) w'' (.slice x m c) (dig (X % VB).toNat) ∧ Below W4.heap.size W4 w'') := Lib.hid (by
      have h5 := cut_code _ _ (dig X.toNat) B W4.drew (RE4.heap rfl) (dig_bytes _) (by
        rw [dig_len, Int.toNat_of_nonneg hX0]
        have h1 := drop_small HB1.out (by rw [HL.out]; omega) i
        have h2 : val (A.drop i) = d + 256 * val (A.drop (i + 1)) := by rw [val_drop (by rw [HL.out]; omega), ← HD.out]
        have h3 : R ≤ val (A.drop (i + 1)) := by
          have h4 := val_nonneg (drop_bytes HB1.out (i + 1))
          rw [← HRR.out, HIK.out.1]
          exact emod_le h4 hVB
        omega) (Bts.heap (w := W4) (Bts.only HV2.out (F := fun b => w.heap.size ≤ b) ⟨hB4.os, hB4.tape, hB4.output, hB4.size, fun k hk _ => hB4.block k hk⟩ (fun b h h2 => by omega)) rfl) HB2.out (by rw [HN2.out]; omega) (dig_bare _) HRB.out HNE.out (by rw [val_dig, Int.toNat_of_nonneg hX0, HEB.out]; exact hX1)
      unfold CutPost at h5
      rw [val_dig, Int.toNat_of_nonneg hX0, HEB.out] at h5
      refine h5.mono ?_
      rintro e w'' ⟨x, m, c, rfl, h6, h7⟩
      exact ⟨x, m, c, rfl, Bts.kind h6 fun b _ h => by
        have e1 : W4.drew.heap.size = W4.heap.size := rfl
        rcases h with h | h
        · show z + 1 + 1 + 1 < b; omega
        · show z + 1 + 1 + 1 < b; omega, ⟨h7.os, h7.tape, h7.output, h7.size, h7.block⟩⟩)
    have P1 := Lib.hid p1
    have P2 := Lib.hid p2
    have P3 := Lib.hid p3
    have HB4 := Lib.hid hB4
    have HR4 := Lib.hid hR4
    have HRd4 := Lib.hid hRd4
    obtain ⟨h, hr4, hh4, ht4⟩ := hR4
    obtain ⟨D, hDD⟩ : ∃ D, X / VB = D := ⟨_, rfl⟩
    have hD0 : 0 ≤ D ∧ D ≤ 255 := by
      rw [← hDD]
      exact ⟨Int.ediv_nonneg hX0 (by omega), by have := Int.ediv_lt_of_lt_mul hVB (show X < 256 * VB from hX1); omega⟩
    rw [hDD] at HCU
    have HK34 : Hid (KeepsOthers W1 W4) := by rw [← hW4]; exact Lib.hid ((keeps_below hK3).trans (KeepsOthers.setCell _ _ _))
    have hz4 : z + 1 + 1 + 1 + 1 < W4.heap.size := by omega
    have u1 := p1.cell
    have u2 := p2.cell
    have u3 := p3.cell
    have g4 := p3.frozen
    have u4 := hr4.1 i hi
    have g5 := hr4.2.1 i
    have hiL : (i : Int) < L := by omega
    have HW5 : Hid (∀ w5, Below W4.heap.size W4 w5 → w5.cell? ⟨z + 1 + 1, 0, none⟩ = some (.slice (some ⟨z + 1, 0, none⟩) L L) ∧ w5.cell? ⟨z + 1 + 1 + 1, 0, none⟩ = some (.slice x3 k4 c3) ∧ w5.cell? ⟨z, 0, none⟩ = some (.slice a2 n2 c2) ∧ w5.frozen? ⟨z + 1 + 1 + 1, 0, none⟩ = false ∧ w5.cell? ⟨z + 1, i, none⟩ = some (.int .u8 (h i)) ∧ w5.frozen? ⟨z + 1, i, none⟩ = false) := Lib.hid fun w5 hb =>
      ⟨(box_next P2.out hb P2.out.lt).cell, (box_next P3.out hb P3.out.lt).cell, (box_next P1.out hb P1.out.lt).cell, (box_next P3.out hb P3.out.lt).frozen, (hr4.next hb).1 i hi, (hr4.next hb).2.1 i⟩
    have HL6 : Hid (∀ w5 x5 m5 c5, Bts (z + 1 + 1 + 1 < ·) w5 (.slice x5 m5 c5) (dig (X % VB).toNat) → Below W4.heap.size W4 w5 →
        KeepsFrom W0.heap.size W1 ((w5.setCell ⟨z + 1, i, none⟩ (.int .u8 D)).setCell ⟨z + 1 + 1 + 1, 0, none⟩ (.slice x5 m5 c5)) ∧ True ∧ DiI w z (.slice a2 n2 c2) a1 c1 A VB L (k + 1) ((w5.setCell ⟨z + 1, i, none⟩ (.int .u8 D)).setCell ⟨z + 1 + 1 + 1, 0, none⟩ (.slice x5 m5 c5))) := Lib.hid fun w5 x5 m5 c5 hv hb => by
      have hT : val (A.drop (i + 1)) / VB = topV h (i + 1) L := by rw [← HIK.out.1]; exact ht4.symm
      have hRm : val (A.drop (i + 1)) % VB = R := by rw [← HIK.out.1]; exact HRR.out
      have hdr : val (A.drop i) = d + 256 * val (A.drop (i + 1)) := by rw [val_drop (by rw [HL.out]; omega), ← HD.out]
      obtain ⟨dn1, dn2⟩ := div_next hT hRm hX hDD hVB
      refine ⟨((HK34.out.trans (keeps_below hb)).trans ((KeepsOthers.setCell _ _ _).trans (KeepsOthers.setCell _ _ _))).from _, trivial, ?_, ?_, ?_, fun _ => ⟨fun j => if j = i then D else h j, ?_, fun j => ?_, ?_⟩, ⟨x5, m5, c5, ?_, ?_⟩, ?_⟩
      · exact ((HB4.out.trans (hb.mono HB4.out.size)).setCell (p := ⟨z + 1, i, none⟩) (by show w.heap.size ≤ z + 1; omega) _).setCell (p := ⟨z + 1 + 1 + 1, 0, none⟩) (by show w.heap.size ≤ z + 1 + 1 + 1; omega) _
      · exact (box_cell (box_next P1.out hb P1.out.lt) (by omega) _).other (by omega) _
      · exact (box_cell (box_next P2.out hb P2.out.lt) (by omega) _).other (by omega) _
      · exact rowB_other ((hr4.next hb).set hi D) (by omega) _
      · show 0 ≤ (if j = i then D else h j) ∧ (if j = i then D else h j) ≤ 255
        split
        · exact hD0
        · exact hh4 j
      · rw [HIK.out.2, hdr, dn1, topV_step _ _ hi]
        show (if i = i then D else h i) + 256 * _ = _
        rw [if_pos rfl, topV_congr (g := h) L L (i + 1) (by omega) (fun j hj => if_neg (by omega))]
      · exact (box_cell (box_next P3.out hb P3.out.lt) (by omega) _).set _
      · rw [HIK.out.2, hdr, dn2]
        have o1 : Only (fun b => b = z + 1 ∨ b = z + 1 + 1 + 1) w5 ((w5.setCell ⟨z + 1, i, none⟩ (.int .u8 D)).setCell ⟨z + 1 + 1 + 1, 0, none⟩ (.slice x5 m5 c5)) := ((Only.refl (fun b => b = z + 1 ∨ b = z + 1 + 1 + 1) w5).setCell ⟨z + 1, i, none⟩ (.inl (.inl rfl)) _).setCell ⟨z + 1 + 1 + 1, 0, none⟩ (.inl (.inr rfl)) _
        exact Bts.only hv o1 (fun b h1 h2 => by omega)
      · exact (((HRd4.out.next hb).setC (by omega) (fun b off e => by have := HA1.out b off e (by omega); omega)).setC (by omega) (fun b off e => by have := HA1.out b off e (by omega); omega)).less
    clear hW4 hs4 hs3 p1 p2 p3 ho4 hB4 hRd4 RE4 RE3 b3 y3 g3 y2 y1 yr yr2 hK3 hgrow ho3 hbx hrest HRUN HTT hr4 hh4 ht4
    clear HB4 HR4 HRd4 HK34 P1 P2 P3 HI
    refine region_round (by kernel_rfl) (by kernel_rfl) ?_
    refine wpAnyIn_take (i := 1) (v := .int .i64 i) rfl rfl (by kernel_rfl) (by kernel_rfl) (by kernel_rfl) (fun _ _ _ h => h) ⟨Or.inl ⟨by rfl, (by intro w; go_simp)⟩, fun _ => rfl⟩ ?_
    refine wpAnyIn_ready (rs := [0, 2, 3]) (by kernel_rfl) (by simp) ?_
    refine AllReadyIn.cons rfl (fun K hK => ?_) ?_
    · go_simp
      refine hK _ _ ?_
      clear hK K
      refine wpAnyIn_ready (rs := [2, 3]) (by kernel_rfl) (by simp) ?_
      refine AllReadyIn.cons rfl (fun K hK => ?_) ?_
      · go_simp
        refine hK _ _ ?_
        clear hK K
        refine wpAnyIn_ready (rs := [3]) (by kernel_rfl) (by simp) ?_
        refine AllReadyIn.cons rfl (fun K hK => ?_) ?_
        · go_simp
          refine hK _ _ ?_
          clear hK K
          refine wpAnyIn_ready (rs := [4]) (by kernel_rfl) (by simp) ?_
          refine AllReadyIn.cons rfl (fun K hK => ?_) ?_
          · go_simp
            gi_wp2_with (gi_at_call 39; refine (callsIn_wide.2 HCU.out).mono ?_; rintro e w5 ⟨x5, m5, c5, rfl, hv5, hb5⟩; have K5 := Lib.hid hb5; have V5 := Lib.hid hv5; obtain ⟨t1, t2, t3, t4, t5, t6⟩ := HW5.out w5 hb5; clear hb5 hv5)
            refine wpAnyIn_take (i := 5) (v := .tuple #[.int .u8 D, .slice x5 m5 c5]) rfl rfl (by kernel_rfl) (by kernel_rfl) (by kernel_rfl) (fun _ _ _ h => h) ⟨Or.inl ⟨by rfl, (by intro w; go_simp)⟩, fun _ => rfl⟩ ?_
            refine wpAnyIn_take (i := 6) (v := .int .u8 D) rfl rfl (by kernel_rfl) (by kernel_rfl) (by kernel_rfl) (fun _ _ _ h => h) ⟨Or.inl ⟨by rfl, (by intro w; go_simp)⟩, fun _ => rfl⟩ ?_
            refine wpAnyIn_take (i := 7) (v := .slice x5 m5 c5) rfl rfl (by kernel_rfl) (by kernel_rfl) (by kernel_rfl) (fun _ _ _ h => h) ⟨Or.inl ⟨by rfl, (by intro w; go_simp)⟩, fun _ => rfl⟩ ?_
            refine wpAnyIn_ready (rs := [8]) (by kernel_rfl) (by simp) ?_
            refine AllReadyIn.cons rfl (fun K hK => ?_) ?_
            · go_simp
              refine hK _ _ ?_
              clear hK K
              refine wpAnyIn_ready (rs := [9]) (by kernel_rfl) (by simp) ?_
              refine AllReadyIn.cons rfl (fun K hK => ?_) ?_
              · go_simp
                refine hK _ _ ?_
                clear hK K
                refine wpAnyIn_ready (rs := [10]) (by kernel_rfl) (by simp) ?_
                refine AllReadyIn.cons rfl (fun K hK => ?_) ?_
                · go_simp
                  refine hK _ _ ?_
                  clear hK K
                  refine wpAnyIn_done (by kernel_rfl) ?_ _
                  exact HL6.out _ _ _ _ V5.out K5.out
                exact AllReadyIn.nil
              exact AllReadyIn.nil
            exact AllReadyIn.nil
          exact AllReadyIn.nil
        exact AllReadyIn.nil
      refine AllReadyIn.cons rfl (fun K hK => ?_) ?_
      · go_simp
        refine hK _ _ ?_
        clear hK K
        refine wpAnyIn_ready (rs := [2]) (by kernel_rfl) (by simp) ?_
        refine AllReadyIn.cons rfl (fun K hK => ?_) ?_
        · go_simp
          refine hK _ _ ?_
          clear hK K
          refine wpAnyIn_ready (rs := [4]) (by kernel_rfl) (by simp) ?_
          refine AllReadyIn.cons rfl (fun K hK => ?_) ?_
          · go_simp
            gi_wp2_with (gi_at_call 39; refine (callsIn_wide.2 HCU.out).mono ?_; rintro e w5 ⟨x5, m5, c5, rfl, hv5, hb5⟩; have K5 := Lib.hid hb5; have V5 := Lib.hid hv5; obtain ⟨t1, t2, t3, t4, t5, t6⟩ := HW5.out w5 hb5; clear hb5 hv5)
            refine wpAnyIn_take (i := 5) (v := .tuple #[.int .u8 D, .slice x5 m5 c5]) rfl rfl (by kernel_rfl) (by kernel_rfl) (by kernel_rfl) (fun _ _ _ h => h) ⟨Or.inl ⟨by rfl, (by intro w; go_simp)⟩, fun _ => rfl⟩ ?_
            refine wpAnyIn_take (i := 6) (v := .int .u8 D) rfl rfl (by kernel_rfl) (by kernel_rfl) (by kernel_rfl) (fun _ _ _ h => h) ⟨Or.inl ⟨by rfl, (by intro w; go_simp)⟩, fun _ => rfl⟩ ?_
            refine wpAnyIn_take (i := 7) (v := .slice x5 m5 c5) rfl rfl (by kernel_rfl) (by kernel_rfl) (by kernel_rfl) (fun _ _ _ h => h) ⟨Or.inl ⟨by rfl, (by intro w; go_simp)⟩, fun _ => rfl⟩ ?_
            refine wpAnyIn_ready (rs := [8]) (by kernel_rfl) (by simp) ?_
            refine AllReadyIn.cons rfl (fun K hK => ?_) ?_
            · go_simp
              refine hK _ _ ?_
              clear hK K
              refine wpAnyIn_ready (rs := [9]) (by kernel_rfl) (by simp) ?_
              refine AllReadyIn.cons rfl (fun K hK => ?_) ?_
              · go_simp
                refine hK _ _ ?_
                clear hK K
                refine wpAnyIn_ready (rs := [10]) (by kernel_rfl) (by simp) ?_
                refine AllReadyIn.cons rfl (fun K hK => ?_) ?_
                · go_simp
                  refine hK _ _ ?_
                  clear hK K
                  refine wpAnyIn_done (by kernel_rfl) ?_ _
                  exact HL6.out _ _ _ _ V5.out K5.out
                exact AllReadyIn.nil
              exact AllReadyIn.nil
            exact AllReadyIn.nil
          exact AllReadyIn.nil
        exact AllReadyIn.nil
      exact AllReadyIn.nil
    refine AllReadyIn.cons rfl (fun K hK => ?_) ?_
    · go_simp
      refine hK _ _ ?_
      clear hK K
      refine wpAnyIn_ready (rs := [0, 3]) (by kernel_rfl) (by simp) ?_
      refine AllReadyIn.cons rfl (fun K hK => ?_) ?_
      · go_simp
        refine hK _ _ ?_
        clear hK K
        refine wpAnyIn_ready (rs := [3]) (by kernel_rfl) (by simp) ?_
        refine AllReadyIn.cons rfl (fun K hK => ?_) ?_
        · go_simp
          refine hK _ _ ?_
          clear hK K
          refine wpAnyIn_ready (rs := [4]) (by kernel_rfl) (by simp) ?_
          refine AllReadyIn.cons rfl (fun K hK => ?_) ?_
          · go_simp
            gi_wp2_with (gi_at_call 39; refine (callsIn_wide.2 HCU.out).mono ?_; rintro e w5 ⟨x5, m5, c5, rfl, hv5, hb5⟩; have K5 := Lib.hid hb5; have V5 := Lib.hid hv5; obtain ⟨t1, t2, t3, t4, t5, t6⟩ := HW5.out w5 hb5; clear hb5 hv5)
            refine wpAnyIn_take (i := 5) (v := .tuple #[.int .u8 D, .slice x5 m5 c5]) rfl rfl (by kernel_rfl) (by kernel_rfl) (by kernel_rfl) (fun _ _ _ h => h) ⟨Or.inl ⟨by rfl, (by intro w; go_simp)⟩, fun _ => rfl⟩ ?_
            refine wpAnyIn_take (i := 6) (v := .int .u8 D) rfl rfl (by kernel_rfl) (by kernel_rfl) (by kernel_rfl) (fun _ _ _ h => h) ⟨Or.inl ⟨by rfl, (by intro w; go_simp)⟩, fun _ => rfl⟩ ?_
            refine wpAnyIn_take (i := 7) (v := .slice x5 m5 c5) rfl rfl (by kernel_rfl) (by kernel_rfl) (by kernel_rfl) (fun _ _ _ h => h) ⟨Or.inl ⟨by rfl, (by intro w; go_simp)⟩, fun _ => rfl⟩ ?_
            refine wpAnyIn_ready (rs := [8]) (by kernel_rfl) (by simp) ?_
            refine AllReadyIn.cons rfl (fun K hK => ?_) ?_
            · go_simp
              refine hK _ _ ?_
              clear hK K
              refine wpAnyIn_ready (rs := [9]) (by kernel_rfl) (by simp) ?_
              refine AllReadyIn.cons rfl (fun K hK => ?_) ?_
              · go_simp
                refine hK _ _ ?_
                clear hK K
                refine wpAnyIn_ready (rs := [10]) (by kernel_rfl) (by simp) ?_
                refine AllReadyIn.cons rfl (fun K hK => ?_) ?_
                · go_simp
                  refine hK _ _ ?_
                  clear hK K
                  refine wpAnyIn_done (by kernel_rfl) ?_ _
                  exact HL6.out _ _ _ _ V5.out K5.out
                exact AllReadyIn.nil
              exact AllReadyIn.nil
            exact AllReadyIn.nil
          exact AllReadyIn.nil
        exact AllReadyIn.nil
      refine AllReadyIn.cons rfl (fun K hK => ?_) ?_
      · go_simp
        refine hK _ _ ?_
        clear hK K
        refine wpAnyIn_ready (rs := [0, 4]) (by kernel_rfl) (by simp) ?_
        refine AllReadyIn.cons rfl (fun K hK => ?_) ?_
        · go_simp
          refine hK _ _ ?_
          clear hK K
          refine wpAnyIn_ready (rs := [4]) (by kernel_rfl) (by simp) ?_
          refine AllReadyIn.cons rfl (fun K hK => ?_) ?_
          · go_simp
            gi_wp2_with (gi_at_call 39; refine (callsIn_wide.2 HCU.out).mono ?_; rintro e w5 ⟨x5, m5, c5, rfl, hv5, hb5⟩; have K5 := Lib.hid hb5; have V5 := Lib.hid hv5; obtain ⟨t1, t2, t3, t4, t5, t6⟩ := HW5.out w5 hb5; clear hb5 hv5)
            refine wpAnyIn_take (i := 5) (v := .tuple #[.int .u8 D, .slice x5 m5 c5]) rfl rfl (by kernel_rfl) (by kernel_rfl) (by kernel_rfl) (fun _ _ _ h => h) ⟨Or.inl ⟨by rfl, (by intro w; go_simp)⟩, fun _ => rfl⟩ ?_
            refine wpAnyIn_take (i := 6) (v := .int .u8 D) rfl rfl (by kernel_rfl) (by kernel_rfl) (by kernel_rfl) (fun _ _ _ h => h) ⟨Or.inl ⟨by rfl, (by intro w; go_simp)⟩, fun _ => rfl⟩ ?_
            refine wpAnyIn_take (i := 7) (v := .slice x5 m5 c5) rfl rfl (by kernel_rfl) (by kernel_rfl) (by kernel_rfl) (fun _ _ _ h => h) ⟨Or.inl ⟨by rfl, (by intro w; go_simp)⟩, fun _ => rfl⟩ ?_
            refine wpAnyIn_ready (rs := [8]) (by kernel_rfl) (by simp) ?_
            refine AllReadyIn.cons rfl (fun K hK => ?_) ?_
            · go_simp
              refine hK _ _ ?_
              clear hK K
              refine wpAnyIn_ready (rs := [9]) (by kernel_rfl) (by simp) ?_
              refine AllReadyIn.cons rfl (fun K hK => ?_) ?_
              · go_simp
                refine hK _ _ ?_
                clear hK K
                refine wpAnyIn_ready (rs := [10]) (by kernel_rfl) (by simp) ?_
                refine AllReadyIn.cons rfl (fun K hK => ?_) ?_
                · go_simp
                  refine hK _ _ ?_
                  clear hK K
                  refine wpAnyIn_done (by kernel_rfl) ?_ _
                  exact HL6.out _ _ _ _ V5.out K5.out
                exact AllReadyIn.nil
              exact AllReadyIn.nil
            exact AllReadyIn.nil
          exact AllReadyIn.nil
        refine AllReadyIn.cons rfl (fun K hK => ?_) ?_
        · go_simp
          gi_wp2_with (gi_at_call 39; refine (callsIn_wide.2 HCU.out).mono ?_; rintro e w5 ⟨x5, m5, c5, rfl, hv5, hb5⟩; have K5 := Lib.hid hb5; have V5 := Lib.hid hv5; obtain ⟨t1, t2, t3, t4, t5, t6⟩ := HW5.out w5 hb5; clear hb5 hv5)
          refine wpAnyIn_take (i := 5) (v := .tuple #[.int .u8 D, .slice x5 m5 c5]) rfl rfl (by kernel_rfl) (by kernel_rfl) (by kernel_rfl) (fun _ _ _ h => h) ⟨Or.inl ⟨by rfl, (by intro w; go_simp)⟩, fun _ => rfl⟩ ?_
          refine wpAnyIn_take (i := 6) (v := .int .u8 D) rfl rfl (by kernel_rfl) (by kernel_rfl) (by kernel_rfl) (fun _ _ _ h => h) ⟨Or.inl ⟨by rfl, (by intro w; go_simp)⟩, fun _ => rfl⟩ ?_
          refine wpAnyIn_take (i := 7) (v := .slice x5 m5 c5) rfl rfl (by kernel_rfl) (by kernel_rfl) (by kernel_rfl) (fun _ _ _ h => h) ⟨Or.inl ⟨by rfl, (by intro w; go_simp)⟩, fun _ => rfl⟩ ?_
          refine wpAnyIn_ready (rs := [0]) (by kernel_rfl) (by simp) ?_
          refine AllReadyIn.cons rfl (fun K hK => ?_) ?_
          · go_simp
            refine hK _ _ ?_
            clear hK K
            refine wpAnyIn_ready (rs := [8]) (by kernel_rfl) (by simp) ?_
            refine AllReadyIn.cons rfl (fun K hK => ?_) ?_
            · go_simp
              refine hK _ _ ?_
              clear hK K
              refine wpAnyIn_ready (rs := [9]) (by kernel_rfl) (by simp) ?_
              refine AllReadyIn.cons rfl (fun K hK => ?_) ?_
              · go_simp
                refine hK _ _ ?_
                clear hK K
                refine wpAnyIn_ready (rs := [10]) (by kernel_rfl) (by simp) ?_
                refine AllReadyIn.cons rfl (fun K hK => ?_) ?_
                · go_simp
                  refine hK _ _ ?_
                  clear hK K
                  refine wpAnyIn_done (by kernel_rfl) ?_ _
                  exact HL6.out _ _ _ _ V5.out K5.out
                exact AllReadyIn.nil
              exact AllReadyIn.nil
            exact AllReadyIn.nil
          exact AllReadyIn.nil
        exact AllReadyIn.nil
      exact AllReadyIn.nil
    refine AllReadyIn.cons rfl (fun K hK => ?_) ?_
    · go_simp
      refine hK _ _ ?_
      clear hK K
      refine wpAnyIn_ready (rs := [0, 2]) (by kernel_rfl) (by simp) ?_
      refine AllReadyIn.cons rfl (fun K hK => ?_) ?_
      · go_simp
        refine hK _ _ ?_
        clear hK K
        refine wpAnyIn_ready (rs := [2]) (by kernel_rfl) (by simp) ?_
        refine AllReadyIn.cons rfl (fun K hK => ?_) ?_
        · go_simp
          refine hK _ _ ?_
          clear hK K
          refine wpAnyIn_ready (rs := [4]) (by kernel_rfl) (by simp) ?_
          refine AllReadyIn.cons rfl (fun K hK => ?_) ?_
          · go_simp
            gi_wp2_with (gi_at_call 39; refine (callsIn_wide.2 HCU.out).mono ?_; rintro e w5 ⟨x5, m5, c5, rfl, hv5, hb5⟩; have K5 := Lib.hid hb5; have V5 := Lib.hid hv5; obtain ⟨t1, t2, t3, t4, t5, t6⟩ := HW5.out w5 hb5; clear hb5 hv5)
            refine wpAnyIn_take (i := 5) (v := .tuple #[.int .u8 D, .slice x5 m5 c5]) rfl rfl (by kernel_rfl) (by kernel_rfl) (by kernel_rfl) (fun _ _ _ h => h) ⟨Or.inl ⟨by rfl, (by intro w; go_simp)⟩, fun _ => rfl⟩ ?_
            refine wpAnyIn_take (i := 6) (v := .int .u8 D) rfl rfl (by kernel_rfl) (by kernel_rfl) (by kernel_rfl) (fun _ _ _ h => h) ⟨Or.inl ⟨by rfl, (by intro w; go_simp)⟩, fun _ => rfl⟩ ?_
            refine wpAnyIn_take (i := 7) (v := .slice x5 m5 c5) rfl rfl (by kernel_rfl) (by kernel_rfl) (by kernel_rfl) (fun _ _ _ h => h) ⟨Or.inl ⟨by rfl, (by intro w; go_simp)⟩, fun _ => rfl⟩ ?_
            refine wpAnyIn_ready (rs := [8]) (by kernel_rfl) (by simp) ?_
            refine AllReadyIn.cons rfl (fun K hK => ?_) ?_
            · go_simp
              refine hK _ _ ?_
              clear hK K
              refine wpAnyIn_ready (rs := [9]) (by kernel_rfl) (by simp) ?_
              refine AllReadyIn.cons rfl (fun K hK => ?_) ?_
              · go_simp
                refine hK _ _ ?_
                clear hK K
                refine wpAnyIn_ready (rs := [10]) (by kernel_rfl) (by simp) ?_
                refine AllReadyIn.cons rfl (fun K hK => ?_) ?_
                · go_simp
                  refine hK _ _ ?_
                  clear hK K
                  refine wpAnyIn_done (by kernel_rfl) ?_ _
                  exact HL6.out _ _ _ _ V5.out K5.out
                exact AllReadyIn.nil
              exact AllReadyIn.nil
            exact AllReadyIn.nil
          exact AllReadyIn.nil
        exact AllReadyIn.nil
      refine AllReadyIn.cons rfl (fun K hK => ?_) ?_
      · go_simp
        refine hK _ _ ?_
        clear hK K
        refine wpAnyIn_ready (rs := [0, 4]) (by kernel_rfl) (by simp) ?_
        refine AllReadyIn.cons rfl (fun K hK => ?_) ?_
        · go_simp
          refine hK _ _ ?_
          clear hK K
          refine wpAnyIn_ready (rs := [4]) (by kernel_rfl) (by simp) ?_
          refine AllReadyIn.cons rfl (fun K hK => ?_) ?_
          · go_simp
            gi_wp2_with (gi_at_call 39; refine (callsIn_wide.2 HCU.out).mono ?_; rintro e w5 ⟨x5, m5, c5, rfl, hv5, hb5⟩; have K5 := Lib.hid hb5; have V5 := Lib.hid hv5; obtain ⟨t1, t2, t3, t4, t5, t6⟩ := HW5.out w5 hb5; clear hb5 hv5)
            refine wpAnyIn_take (i := 5) (v := .tuple #[.int .u8 D, .slice x5 m5 c5]) rfl rfl (by kernel_rfl) (by kernel_rfl) (by kernel_rfl) (fun _ _ _ h => h) ⟨Or.inl ⟨by rfl, (by intro w; go_simp)⟩, fun _ => rfl⟩ ?_
            refine wpAnyIn_take (i := 6) (v := .int .u8 D) rfl rfl (by kernel_rfl) (by kernel_rfl) (by kernel_rfl) (fun _ _ _ h => h) ⟨Or.inl ⟨by rfl, (by intro w; go_simp)⟩, fun _ => rfl⟩ ?_
            refine wpAnyIn_take (i := 7) (v := .slice x5 m5 c5) rfl rfl (by kernel_rfl) (by kernel_rfl) (by kernel_rfl) (fun _ _ _ h => h) ⟨Or.inl ⟨by rfl, (by intro w; go_simp)⟩, fun _ => rfl⟩ ?_
            refine wpAnyIn_ready (rs := [8]) (by kernel_rfl) (by simp) ?_
            refine AllReadyIn.cons rfl (fun K hK => ?_) ?_
            · go_simp
              refine hK _ _ ?_
              clear hK K
              refine wpAnyIn_ready (rs := [9]) (by kernel_rfl) (by simp) ?_
              refine AllReadyIn.cons rfl (fun K hK => ?_) ?_
              · go_simp
                refine hK _ _ ?_
                clear hK K
                refine wpAnyIn_ready (rs := [10]) (by kernel_rfl) (by simp) ?_
                refine AllReadyIn.cons rfl (fun K hK => ?_) ?_
                · go_simp
                  refine hK _ _ ?_
                  clear hK K
                  refine wpAnyIn_done (by kernel_rfl) ?_ _
                  exact HL6.out _ _ _ _ V5.out K5.out
                exact AllReadyIn.nil
              exact AllReadyIn.nil
            exact AllReadyIn.nil
          exact AllReadyIn.nil
        refine AllReadyIn.cons rfl (fun K hK => ?_) ?_
        · go_simp
          gi_wp2_with (gi_at_call 39; refine (callsIn_wide.2 HCU.out).mono ?_; rintro e w5 ⟨x5, m5, c5, rfl, hv5, hb5⟩; have K5 := Lib.hid hb5; have V5 := Lib.hid hv5; obtain ⟨t1, t2, t3, t4, t5, t6⟩ := HW5.out w5 hb5; clear hb5 hv5)
          refine wpAnyIn_take (i := 5) (v := .tuple #[.int .u8 D, .slice x5 m5 c5]) rfl rfl (by kernel_rfl) (by kernel_rfl) (by kernel_rfl) (fun _ _ _ h => h) ⟨Or.inl ⟨by rfl, (by intro w; go_simp)⟩, fun _ => rfl⟩ ?_
          refine wpAnyIn_take (i := 6) (v := .int .u8 D) rfl rfl (by kernel_rfl) (by kernel_rfl) (by kernel_rfl) (fun _ _ _ h => h) ⟨Or.inl ⟨by rfl, (by intro w; go_simp)⟩, fun _ => rfl⟩ ?_
          refine wpAnyIn_take (i := 7) (v := .slice x5 m5 c5) rfl rfl (by kernel_rfl) (by kernel_rfl) (by kernel_rfl) (fun _ _ _ h => h) ⟨Or.inl ⟨by rfl, (by intro w; go_simp)⟩, fun _ => rfl⟩ ?_
          refine wpAnyIn_ready (rs := [0]) (by kernel_rfl) (by simp) ?_
          refine AllReadyIn.cons rfl (fun K hK => ?_) ?_
          · go_simp
            refine hK _ _ ?_
            clear hK K
            refine wpAnyIn_ready (rs := [8]) (by kernel_rfl) (by simp) ?_
            refine AllReadyIn.cons rfl (fun K hK => ?_) ?_
            · go_simp
              refine hK _ _ ?_
              clear hK K
              refine wpAnyIn_ready (rs := [9]) (by kernel_rfl) (by simp) ?_
              refine AllReadyIn.cons rfl (fun K hK => ?_) ?_
              · go_simp
                refine hK _ _ ?_
                clear hK K
                refine wpAnyIn_ready (rs := [10]) (by kernel_rfl) (by simp) ?_
                refine AllReadyIn.cons rfl (fun K hK => ?_) ?_
                · go_simp
                  refine hK _ _ ?_
                  clear hK K
                  refine wpAnyIn_done (by kernel_rfl) ?_ _
                  exact HL6.out _ _ _ _ V5.out K5.out
                exact AllReadyIn.nil
              exact AllReadyIn.nil
            exact AllReadyIn.nil
          exact AllReadyIn.nil
        exact AllReadyIn.nil
      exact AllReadyIn.nil
    exact AllReadyIn.nil
  case done =>
    intro D W hD hI hK
    rw [backL_len] at hI
    have HI := Lib.hid hI
    have y2 := hI.quo.cell
    obtain ⟨x, m, c, hbx, hrest⟩ := hI.rest
    rw [Nat.sub_self, List.drop_zero] at hrest
    have y3 := hbx.cell
    have hQ : ∃ qs : List Int, qs.length = L ∧ Bytes qs ∧ Bts (fun _ => True) W (.slice (some ⟨z + 1, 0, none⟩) L L) qs ∧ val qs = val A / VB := by
      by_cases h0 : 0 < L
      · obtain ⟨h, r1, r2, r3⟩ := hI.row h0
        rw [Nat.sub_self, List.drop_zero] at r3
        exact ⟨rowL h L, rowL_len _ _, fun n hn => by
          obtain ⟨j, _, rfl⟩ := List.mem_map.1 hn
          exact r2 j, Bts.kind r1.bts fun _ _ _ => trivial, r3⟩
      · have hA : A = [] := List.eq_nil_of_length_eq_zero (by rw [HL.out]; omega)
        refine ⟨[], by simp; omega, (fun n hn => (by cases hn)), ⟨some ⟨z + 1, 0, none⟩, L, (by rw [show L = 0 by omega]; rfl), by simp, .inl rfl⟩, ?_⟩
        rw [hA]
        exact (Int.zero_ediv VB).symm
    obtain ⟨qs, q1', q2', q3, q4⟩ := hQ
    have HT : Hid (∀ w', w'.heap = W.heap → Calls Tryz.prog 38 #[.slice (some ⟨z + 1, 0, none⟩) L L] w' fun e w'' => e = .returned (.slice (some ⟨z + 1, 0, none⟩) (trimK qs) L) ∧ w'' = w') := Lib.hid fun w' hh => (trim_is _ L L qs w' (q3.heap hh) q2' (by omega)).mono fun e w'' ⟨h1, h2⟩ => ⟨h1, h2.symm⟩
    have hq5 := Bts.take (k := trimK qs) q3 (by have := trimK_le q2'; omega) q1'.symm
    rw [trimK_take q2', q4] at hq5
    obtain ⟨kq, hkq⟩ : ∃ k, trimK qs = k := ⟨_, rfl⟩
    rw [hkq] at HT hq5
    have HQ5 := Lib.hid hq5
    have HR5 := Lib.hid hrest
    have HKD := Lib.hid hK
    clear hI hbx hrest q1' q2' q3 q4 hq5 hkq HI0
    go_wp2_with fail
    go_quiet (first | (go_at_call 38; exact Calls.quiet_of_same (HT.out _ rfl)))
    go_wp2_with fail
    have hk1 : (W.drewN nq).heap[D]? = some (.deferred (some [])) := HKD.out
    have hgr := grownBy_putObj' (W.drewN nq) D (.deferred none)
    have hgc : ∀ r, some D = some r → ∃ o : Obj, (W.drewN nq).heap[r]? = some o ∧ o.isCells = false := fun r e => by cases e; exact ⟨_, hk1, rfl⟩
    refine ⟨by simp, .inl ⟨_, _, rfl, run_takeDeferred hk1, ?_⟩⟩
    refine ⟨.tuple #[.slice (some ⟨z + 1, 0, none⟩) kq L, .slice x m c, .int .i64 0], ?_, _, _, rfl, ?_, ?_, ?_⟩
    · simp [results, Tryz.f19, go_sem]
    · exact vals_grown (HQ5.out.heap (w' := W.drewN nq) rfl) hgr hgc
    · exact Bts.kind (vals_grown (HR5.out.heap (w' := W.drewN nq) rfl) hgr hgc) fun _ _ _ => trivial
    · exact below_end D _ (below_drews HI.out.below nq) (by omega) hk1 _
  case stop =>
    intro D c W _ h _
    exact h.elim
set_option maxHeartbeats 4000000 in
theorem div_code {N M : Nat → Prop} (v1 v2 : Value) (A B : List Int) (w : World) (h1 : Bts N w v1 A) (b1 : Bytes A) (l1 : A.length ≤ 1000000000000) (h2 : Bts M w v2 B) (b2 : Bytes B) (l2 : B.length ≤ 1000000000000) : Calls Tryz.prog 19 #[v1, v2] w (DivB A B w) := by
  have K1 : Hid (Below w.heap.size w (w.alloc (.cells #[v2] 22))) := Lib.hid (below_new w _)
  have C1 : Hid (Calls Tryz.prog 16 #[v1] (w.alloc (.cells #[v2] 22)) fun e w' => e = .returned (.bool (rightB A)) ∧ w.alloc (.cells #[v2] 22) = w') := Lib.hid (right_is v1 A _ (h1.next (below_new _ _)) l1)
  have C2 : Hid (Calls Tryz.prog 16 #[v2] (w.alloc (.cells #[v2] 22)) fun e w' => e = .returned (.bool (rightB B)) ∧ w.alloc (.cells #[v2] 22) = w') := Lib.hid (right_is v2 B _ (h2.next (below_new _ _)) l2)
  by_cases hr : rightB A = true ∧ rightB B = true
  · by_cases hB : B = []
    · have e1 : divE A B = 4 := by unfold divE; rw [if_neg (fun h => h hr), if_pos hB]
      have e2 : divQ A B = [] := by unfold divQ; rw [e1]; rfl
      have e3 : divR A B = [] := by unfold divR; rw [e1]; rfl
      unfold DivB
      rw [e1, e2, e3]
      rw [hr.1] at C1
      rw [hr.2] at C2
      obtain ⟨a2, c2, rfl, hc2⟩ := Bts.form h2
      have hn : B.length = 0 := by rw [hB]; rfl
      rw [hn] at C1 C2 K1 ⊢
      clear e1 e2 e3 hr hB hn h1 h2 b1 b2 l1 l2 hc2
      go_enter Tryz.func19, Tryz.ntmps19
      go_wp2_with (first | (go_at_call 16; with_reducible refine C1.out.mono ?_; rintro e w2 ⟨rfl, rfl⟩; clear C1) | (go_at_call 16; with_reducible refine C2.out.mono ?_; rintro e w2 ⟨rfl, rfl⟩))
      go_ret3
      exact ⟨_, _, rfl, bts_nil _ _, bts_nil _ _, K1.out⟩
    · have e1 : divE A B = 0 := by unfold divE; rw [if_neg (fun h => h hr), if_neg hB]
      have e2 : divQ A B = dig (val A / val B).toNat := by unfold divQ; rw [e1]; rfl
      have e3 : divR A B = dig (val A % val B).toNat := by unfold divR; rw [e1]; rfl
      unfold DivB
      rw [e1, e2, e3]
      exact div_go v1 v2 A B w h1 b1 h2 b2 hr.1 hr.2 hB
  · have e1 : divE A B = 2 := by unfold divE; rw [if_pos hr]
    have e2 : divQ A B = [] := by unfold divQ; rw [e1]; rfl
    have e3 : divR A B = [] := by unfold divR; rw [e1]; rfl
    unfold DivB
    rw [e1, e2, e3]
    obtain ⟨x, hx⟩ : ∃ x, rightB A = x := ⟨_, rfl⟩
    obtain ⟨y, hy⟩ : ∃ y, rightB B = y := ⟨_, rfl⟩
    rw [hx, hy] at hr
    rw [hx] at C1
    rw [hy] at C2
    obtain ⟨a2, c2, rfl, hc2⟩ := Bts.form h2
    generalize B.length = n2 at *
    clear e1 e2 e3 h1 h2 b1 b2 l1 l2 hc2 hx hy
    cases x with
    | false =>
      go_enter Tryz.func19, Tryz.ntmps19
      go_wp2_with (go_at_call 16; refine C1.out.mono ?_; rintro e w2 ⟨rfl, rfl⟩)
      go_ret3
      exact ⟨_, _, rfl, bts_nil _ _, bts_nil _ _, K1.out⟩
    | true =>
      obtain rfl : y = false := by cases y <;> simp_all
      clear hr
      go_enter Tryz.func19, Tryz.ntmps19
      go_wp2_with (first | (go_at_call 16; with_reducible refine C1.out.mono ?_; rintro e w2 ⟨rfl, rfl⟩; clear C1) | (go_at_call 16; with_reducible refine C2.out.mono ?_; rintro e w2 ⟨rfl, rfl⟩))
      go_ret3
      exact ⟨_, _, rfl, bts_nil _ _, bts_nil _ _, K1.out⟩
end Go.Proofs.YtbfacdfmanffdaaGreatDoor
