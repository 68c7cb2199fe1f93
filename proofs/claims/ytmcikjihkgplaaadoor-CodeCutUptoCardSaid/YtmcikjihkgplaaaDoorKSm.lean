/- The document's Same: the same things? -/
import Derived.Test.YtmcikjihkgplaaaDoorKBy
import Derived.Laws.StructEq
namespace Go.Proofs.YtmcikjihkgplaaaDoor
set_option maxRecDepth 1000000
open Go.ChangeShapes Go.WideShapes Go.ChangeAt Go.RowKit

theorem Tryd.u25 : Tryd.prog.underlying 25 = some (.struct (Tryd.prog.fieldsOf 25)) := by kernel_rfl
theorem Tryd.st25 : Tryd.prog.stoodInHeld 25 = false := by kernel_rfl
theorem Tryd.gd25 : Tryd.prog.eqGuardType Tryd.prog.depth 25 = false := by kernel_rfl
theorem Tryd.fs25 : ((Tryd.prog.fieldsOf 25).toList.map fun f => (f.name, f.type, f.offset)) = [("Kind", 3, 0), ("N", 3, 1), ("M", 3, 2), ("Len", 3, 3)] := by kernel_rfl
theorem fields_four {l : List Field} {n1 n2 n3 n4 : String} {t1 t2 t3 t4 o1 o2 o3 o4 : Nat} (h : (l.map fun f => (f.name, f.type, f.offset)) = [(n1, t1, o1), (n2, t2, o2), (n3, t3, o3), (n4, t4, o4)]) :
    ∃ f g h i, l = [f, g, h, i] ∧ (f.name = n1 ∧ f.type = t1 ∧ f.offset = o1) ∧ (g.name = n2 ∧ g.type = t2 ∧ g.offset = o2) ∧ (h.name = n3 ∧ h.type = t3 ∧ h.offset = o3) ∧ (i.name = n4 ∧ i.type = t4 ∧ i.offset = o4) := by
  match l, h with
  | [f, g, i, j], h =>
    simp at h
    exact ⟨f, g, i, j, rfl, h.1, h.2.1, h.2.2.1, h.2.2.2⟩
theorem eql_four (x y z u x' y' z' u' : Int) (w : World) : (Op.equalIn 10000 25 (.agg #[.int .i64 x, .int .i64 y, .int .i64 z, .int .i64 u]) (.agg #[.int .i64 x', .int .i64 y', .int .i64 z', .int .i64 u'])).run Tryd.prog w = .ok (x == x' && (y == y' && (z == z' && u == u'))) w := by
  rw [run_equalIn_agg _ _ _ _ _ Tryd.u25 Tryd.st25]
  obtain ⟨f, g, h, i, e, ⟨a1, a2, a3⟩, ⟨b1, b2, b3⟩, ⟨c1, c2, c3⟩, ⟨d1, d2, d3⟩⟩ := fields_four Tryd.fs25
  rw [e]
  have e1 := run_equalIn_int (P := Tryd.prog) w 9998 3 .i64 .i64 x x' Tryd.underlying3
  have e2 := run_equalIn_int (P := Tryd.prog) w 9998 3 .i64 .i64 y y' Tryd.underlying3
  have e3 := run_equalIn_int (P := Tryd.prog) w 9998 3 .i64 .i64 z z' Tryd.underlying3
  have e4 := run_equalIn_int (P := Tryd.prog) w 9998 3 .i64 .i64 u u' Tryd.underlying3
  simp only [Nat.reduceAdd] at e1 e2 e3 e4
  simp [Op.eqFields, a1, a2, a3, b1, b2, b3, c1, c2, c3, d1, d2, d3, part, e1, e2, e3, e4]
  cases hx : x == x' <;> cases hy : y == y' <;> cases hz : z == z' <;> cases hu : u == u' <;> simp_all
theorem four_eq (o o' : OpT) : (o.k == o'.k && (o.n == o'.n && (o.m == o'.m && o.l == o'.l))) = decide (o = o') := by
  obtain ⟨a, b, c, d⟩ := o
  obtain ⟨a', b', c', d'⟩ := o'
  simp only [OpT.mk.injEq, Bool.beq_eq_decide_eq]
  by_cases h1 : a = a' <;> by_cases h2 : b = b' <;> by_cases h3 : c = c' <;> by_cases h4 : d = d' <;> simp [h1, h2, h3, h4]
theorem neq_op (o o' : OpT) (w : World) : (binOp .neq 25 (.agg #[.int .i64 o.k, .int .i64 o.n, .int .i64 o.m, .int .i64 o.l]) (.agg #[.int .i64 o'.k, .int .i64 o'.n, .int .i64 o'.m, .int .i64 o'.l])).run Tryd.prog w = .ok (.bool (!decide (o = o'))) w := by
  rw [run_neq_struct, eql_four, four_eq]; rfl
theorem eql_op (o o' : OpT) (w : World) : (binOp .eql 25 (.agg #[.int .i64 o.k, .int .i64 o.n, .int .i64 o.m, .int .i64 o.l]) (.agg #[.int .i64 o'.k, .int .i64 o'.n, .int .i64 o'.m, .int .i64 o'.l])).run Tryd.prog w = .ok (.bool (decide (o = o'))) w := by
  rw [run_eql_struct, eql_four, four_eq]; rfl
theorem guard_op (op : BinOp) (x y : Operand) (xs ys : Array Value) (w : World) : (eqGuard op 25 x y (.agg xs) (.agg ys)).run Tryd.prog w = .ok () w := run_eqGuard_agg w op 25 x y xs ys Tryd.gd25
set_option maxHeartbeats 4000000 in
theorem sameL_ref {N M : Nat → Prop} (v1 v2 : Value) (L1 L2 : List OpT) (w : World) (h1 : OpsAt N w v1 L1) (h2 : OpsAt M w v2 L2) (hl1 : L1.length ≤ 1000000000000) (hl2 : L2.length ≤ 1000000000000) :
    Calls Tryd.prog 16 #[v1, v2] w fun e w' => e = .returned (.bool (decide (L1 = L2))) ∧ ∃ d, w' = w.drewN d := by
  obtain ⟨n1, hn1⟩ : ∃ n, L1.length = n := ⟨_, rfl⟩
  obtain ⟨n2, hn2⟩ : ∃ n, L2.length = n := ⟨_, rfl⟩
  have HV (L : List OpT) (N : Nat → Prop) (v : Value) (n : Nat) (hn : L.length = n) (h : OpsAt N w v L) : Hid (∀ (j : Nat), (hj : j < n) → ∃ b off c o, v = .slice (some ⟨b, off, none⟩) n c ∧ L[j]? = some o ∧ RowO w b (off + j * 4) o) := Lib.hid fun j hj => by
    obtain ⟨b, off, c, hv', _, _, hr⟩ := h.at_ (j := j) (by omega)
    exact ⟨b, off, c, L[j], by rw [hv', hn], List.getElem?_eq_getElem (by omega), hr⟩
  have H1 := HV L1 N v1 n1 hn1 h1
  have H2 := HV L2 M v2 n2 hn2 h2
  have HL1 := Lib.hid hn1
  have HL2 := Lib.hid hn2
  have HG : Hid (∃ b, decide (L1 = L2) = b) := Lib.hid ⟨_, rfl⟩
  obtain ⟨g, hg⟩ := HG.out
  rw [hg]
  have HE := Lib.hid hg
  obtain ⟨va, vc, rfl, _⟩ := h1
  obtain ⟨vb, vd, rfl, _⟩ := h2
  rw [hn1] at hl1 H1 ⊢
  rw [hn2] at hl2 H2 ⊢
  clear HV hn1 hn2 hg HG
  by_cases hne : n1 = n2
  · subst hne
    go_enter Tryd.func16, Tryd.ntmps16
    go_wp2_with fail
    go_loopw [5] (fun s5 wx => ∃ (i d : Nat), i ≤ n1 ∧ s5 = .int .i64 i ∧ Hid (∀ j : Nat, j < i → L1[j]? = L2[j]?) ∧ wx = w.drewN d) (fun s5 _ => n1 - (RowKit.intOf s5).toNat)
    case atStart => exact ⟨0, 0, Nat.zero_le _, rfl, Lib.hid fun j h => by omega, rfl⟩
    case round =>
      obtain ⟨i, d, hi, rfl, HI, rfl⟩ := hrel
      by_cases hlt : i < n1
      · obtain ⟨b, off, c, o, hv, ho, x0, x1, x2, x3⟩ := H1.out i hlt
        injection hv with e1 _ e3
        subst e1 e3
        obtain ⟨b', off', c', o', hv, ho', y0, y1, y2, y3⟩ := H2.out i hlt
        injection hv with e1 _ e3
        subst e1 e3
        have d1 : decide ((i : Int) < n1) = true := by simpa using hlt
        have d2 : decide (i < n1) = true := by simpa using hlt
        have hi0 : (0 : Int) ≤ i := by omega
        have hil : (i : Int) < n1 := by omega
        have HO := Lib.hid ho
        have HO' := Lib.hid ho'
        clear H1 H2 ho ho'
        have hgd := fun op x y xs ys w => guard_op op x y xs ys w
        have hnq := fun w => neq_op o o' w
        by_cases ho2 : o = o'
        · rw [decide_eq_true ho2] at hnq
          have HI' : Hid (∀ j : Nat, j < i + 1 → L1[j]? = L2[j]?) := Lib.hid fun j hj => by
            rcases Nat.lt_or_ge j i with h | h
            · exact HI.out j h
            · rw [show j = i by omega, HO.out, HO'.out, ho2]
          simp only [Bool.not_true] at hnq
          clear HI ho2 HO HO' HE
          go_wp2_with fail
          go_quiet (fail)
          go_wp2_with fail
          exact ⟨⟨i + 1, _, by omega, by go_num, HI', rfl⟩, by simp [RowKit.intOf]; omega⟩
        · rw [decide_eq_false ho2] at hnq
          simp only [Bool.not_false] at hnq
          have hF : Hid (g = false) := Lib.hid (by
            rw [← HE.out, decide_eq_false_iff_not]
            intro h
            rw [h] at HO
            have := HO.out.symm.trans HO'.out
            injection this with this
            exact ho2 this)
          clear HI ho2 HO HO' HE
          go_wp2_with fail
          go_quiet (fail)
          go_wp2_with fail
          go_ret
          exact ⟨by rw [hF.out]; rfl, d + nq, by unfold World.drewN; simp [Nat.add_assoc]⟩
      · have hi' : i = n1 := by omega
        have d1 : decide ((i : Int) < n1) = false := by simp [hi']
        have d2 : decide (i < n1) = false := by simp [hi']
        have hF : Hid (g = true) := Lib.hid (by
          rw [← HE.out, decide_eq_true_iff]
          apply List.ext_getElem?
          intro j
          rcases Nat.lt_or_ge j n1 with h | h
          · exact HI.out j (by omega)
          · rw [List.getElem?_eq_none (by rw [HL1.out]; exact h), List.getElem?_eq_none (by rw [HL2.out]; exact h)])
        clear HI hi' hlt H1 H2 HE
        go_wp2_with fail
        go_ret
        exact ⟨by rw [hF.out]; rfl, d, rfl⟩
  · have f1 : (n1 == n2) = false := by simpa using hne
    have f2 : ((n1 : Int) == (n2 : Int)) = false := by simp; omega
    have hF : g = false := by
      rw [← HE.out, decide_eq_false_iff_not]
      intro h; rw [h] at HL1; exact hne (HL1.out.symm.trans HL2.out)
    subst hF
    go_enter Tryd.func16, Tryd.ntmps16
    go_wp2_with fail
    go_ret
    exact ⟨rfl, 0, rfl⟩
end Go.Proofs.YtmcikjihkgplaaaDoor
