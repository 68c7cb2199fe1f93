/- The walk of FlatBlanks: a new object, and whether a word may stand in one. -/
import Derived.Test.YtmaeoefimkppoaaMc
import Derived.BigRegion
import Derived.Deep.RegionHeld3
import Derived.Deep.DeepCutAuto
import Derived.Deep.CutRange
namespace Go.Proofs.Ytmaeoefimkppoaa.Fl
set_option maxRecDepth 1000000
open Go.ChangeShapes Go.WideShapes Go.ChangeAt Go.RowKit
open Go.Proofs.Ytmaeoefimkppoaa.Wd

theorem memR_one {L : List RO} {x : Ob} (h : memR L = [some x]) : ∃ p, L = [p] ∧ p.1 = x := by
  match L, h with
  | [], h => cases h
  | [p], h =>
    refine ⟨p, rfl, ?_⟩
    simp only [memR, List.map_cons, List.map_nil, List.cons.injEq, and_true] at h
    split at h
    · cases h
    · injection h
  | _ :: _ :: _, h => simp [memR] at h
/-- An object in a row, told with its cells. -/
def RowC (w : World) (b q : Nat) (c k : Int) (z u : Value) : Prop := w.cell? ⟨b, q, none⟩ = some (.int .i64 c) ∧ w.cell? ⟨b, q + 1, none⟩ = some (.int .i64 k) ∧ w.cell? ⟨b, q + 2, none⟩ = some z ∧ w.cell? ⟨b, q + 3, none⟩ = some u
theorem RmV.cells {N : Nat → Prop} {w : World} {v : Value} {L : List RO} (h : RmV N w v L) (i : Nat) (hi : i < L.length) :
    ∃ b off c a1 n1 c1 a2 n2 c2, v = .slice (some ⟨b, off, none⟩) L.length c ∧ N b ∧ RowC w b (off + i * 4) L[i].1.c L[i].1.k (.slice a1 n1 c1) (.slice a2 n2 c2) ∧ ObjAt w (.agg #[.int .i64 L[i].1.c, .int .i64 L[i].1.k, .slice a1 n1 c1, .slice a2 n2 c2]) L[i].1 := by
  obtain ⟨b, off, c, hv, hN, hr⟩ := h.at_ i hi
  obtain ⟨a1, c1, a2, c2, e1, e2⟩ := hr.ob.form
  have ho := hr.ob.obj
  unfold roV at ho
  rw [e1, e2] at ho
  have h2 := hr.c2
  have h3 := hr.c3
  rw [e1] at h2
  rw [e2] at h3
  exact ⟨b, off, c, a1, _, c1, a2, _, c2, hv, hN, ⟨hr.c0, hr.c1, h2, h3⟩, ho⟩
theorem RowC.next {w w' : World} {b q : Nat} {c k : Int} {z u : Value} (h : RowC w b q c k z u) (hb : Below w.heap.size w w') : RowC w' b q c k z u := by
  obtain ⟨h0, h1, h2, h3⟩ := h
  have hl := World.block_lt_of_cell? _ _ h0
  exact ⟨(hb.cell (p := ⟨b, q, none⟩) hl).trans h0, (hb.cell (p := ⟨b, q + 1, none⟩) hl).trans h1, (hb.cell (p := ⟨b, q + 2, none⟩) hl).trans h2, (hb.cell (p := ⟨b, q + 3, none⟩) hl).trans h3⟩
set_option maxHeartbeats 4000000 in
theorem flatBlanks_walk (W : World) (c : Int) (w0 : (Lit.int .i64 c).wf = true) (k : Int) (w1 : (Lit.int .i64 k).wf = true) (n : Int) (_w2 : (Lit.int .i64 n).wf = true) (v : Int) (w3 : (Lit.int .i64 v).wf = true) :
    Calls Try.prog 11 #[.int .i64 c, .int .i64 k, .int .i64 n, .int .i64 v] W fun e W' => e = .returned (.bool true) ∧ Below W.heap.size W W' := by
  have hc := wf_i64 w0
  have hk := wf_i64 w1
  have hv := wf_i64 w3
  have HB0 := blank_any c k n W hc hk
  have HN := Lib.hid (fun w => cnew_any (rmv_nil (fun _ => False) w) (Nat.zero_le _) c k n hc)
  have HR1 := Lib.hid (fun w => ref10_any v w hv.1 hv.2)
  have HR2 := Lib.hid (fun w => ref_any v w hv.1 hv.2)
  have HK := Lib.hid (fun w => known_any w)
  generalize valB v = rb at *
  have hrb : (rb != rb) = false := by cases rb <;> rfl
  unfold New10 newE newF at HN
  cases hN : okN c k n with
  | false =>
    rw [hN] at HN
    have HB : Hid (Calls Try.prog 39 #[.int .i64 c, .int .i64 k, .int .i64 n] W fun e w' => e = .returned (.tuple #[.agg #[.int .i64 0, .int .i64 0, .slice none 0 0, .slice none 0 0], .bool false]) ∧ Below W.heap.size W w') := Lib.hid (HB0.mono fun e w' h => by
      rcases h with ⟨h, _⟩ | ⟨_, h⟩
      · rw [hN] at h; cases h
      · exact h)
    have HN2 : Hid (∀ w, Calls Try.prog 31 #[.agg #[.slice none 0 0], .int .i64 c, .int .i64 k, .int .i64 n] w fun e w' => ∃ a' l' c', ∃ z : Int, e = .returned (.tuple #[.agg #[.slice a' l' c'], .int .i64 z, .int .i64 2]) ∧ Below w.heap.size w w') := Lib.hid fun w => (HN.out w).mono fun e w' ⟨a', l', c', L', he, _, _, hb⟩ => ⟨a', l', c', _, he, hb⟩
    clear HB0 HN hN w0 w1 w3 hc hk hv
    go_enter Try.func11, Try.ntmps11
    go_wp2_with fail
    refine HB.out.mono ?_
    rintro e w4 ⟨rfl, hb⟩
    have X4 := Lib.hid (box_new w4 (.int .i64 0) (.int .i64 0) (.slice none 0 0) (.slice none 0 0))
    have B4 := Lib.hid (hb.trans ((below_new w4 (.cells #[.int .i64 0, .int .i64 0, .slice none 0 0, .slice none 0 0] 33)).mono hb.size))
    clear hb
    go_upto_region 2 with fail
    generalize w4.alloc (.cells #[.int .i64 0, .int .i64 0, .slice none 0 0, .slice none 0 0] 33) = w5 at *
    generalize w4.heap.size = p at *
    go_wp2_with fail
    refine (HN2.out _).mono ?_
    rintro e w6 ⟨a', l', c', z, rfl, hb⟩
    have X6 := Lib.hid ((X4.out.next hb).next (below_new w6 (.cells #[.slice a' l' c'] 29)))
    have B6 := Lib.hid ((B4.out.trans (hb.mono B4.out.size)).trans ((below_new w6 (.cells #[.slice a' l' c'] 29)).mono (Nat.le_trans B4.out.size hb.size)))
    clear hb HB HN2
    go_upto_region 3 with fail
    generalize w6.alloc (.cells #[.slice a' l' c'] 29) = w7 at *
    obtain ⟨⟨x0, x1, x2, x3⟩, _, _⟩ := X6.out
    go_wp2_with (first | (go_at_call 40; refine (HR1.out _).mono ?_; rintro e w8 ⟨rfl, rfl⟩) | (go_at_call 33; refine (HR2.out _).mono ?_; rintro e w8 ⟨rfl, rfl⟩) | (go_at_call 13; refine (HK.out _).mono ?_; rintro e w8 ⟨rfl, hb8⟩; have B8 := Lib.hid (B6.out.trans (hb8.mono B6.out.size)); clear hb8))
    go_ret
    exact ⟨rfl, B8.out⟩
  | true =>
    rw [hN] at HN
    have HB : Hid (Calls Try.prog 39 #[.int .i64 c, .int .i64 k, .int .i64 n] W fun e w' => ∃ oc ok a1 n1 c1 a2 n2 c2, e = .returned (.tuple #[.agg #[.int .i64 oc, .int .i64 ok, .slice a1 n1 c1, .slice a2 n2 c2], .bool true]) ∧ Hid (ObjAt w' (.agg #[.int .i64 oc, .int .i64 ok, .slice a1 n1 c1, .slice a2 n2 c2]) (blk c k n.toNat)) ∧ Below W.heap.size W w') := Lib.hid (HB0.mono fun e w' h => by
      rcases h with ⟨_, rv, he, hr, _, hb⟩ | ⟨h, _⟩
      · obtain ⟨a1, n1, c1, a2, n2, c2, hf⟩ := hr.form
        rw [hf] at he
        have ho := hr.obj
        rw [hf] at ho
        exact ⟨_, _, a1, n1, c1, a2, n2, c2, he, ho, hb⟩
      · rw [hN] at h; cases h)
    have HN2 : Hid (∀ w, Calls Try.prog 31 #[.agg #[.slice none 0 0], .int .i64 c, .int .i64 k, .int .i64 n] w fun e w' => ∃ b off cc, ∃ z oc ok : Int, ∃ a1 n1 c1 a2 n2 c2, e = .returned (.tuple #[.agg #[.slice (some ⟨b, off, none⟩) 1 cc], .int .i64 z, .int .i64 0]) ∧ Hid (RowC w' b off oc ok (.slice a1 n1 c1) (.slice a2 n2 c2)) ∧ Hid (ObjAt w' (.agg #[.int .i64 oc, .int .i64 ok, .slice a1 n1 c1, .slice a2 n2 c2]) (blk c k n.toNat)) ∧ Below w.heap.size w w') := Lib.hid fun w => (HN.out w).mono fun e w' ⟨a', l', c', L', he, hm, hL, hb⟩ => by
      obtain ⟨p, rfl, hp⟩ := memR_one (show memR L' = [some (blk c k n.toNat)] from hL)
      obtain ⟨b, off, cc, a1, n1, c1, a2, n2, c2, hv, _, hr, ho⟩ := hm.cells 0 (Nat.zero_lt_one)
      injection hv with e1 e2 e3
      subst e1 e2 e3
      simp only [List.getElem_cons_zero, Nat.zero_mul, Nat.add_zero, hp] at hr ho
      exact ⟨b, off, _, _, _, _, a1, n1, c1, a2, n2, c2, he, hr, ho, hb⟩
    have HSh : Hid (Short (blk c k n.toNat)) := Lib.hid (by
      have h1 : okO (blk c k n.toNat) = true := by
        obtain ⟨_, h1, h2⟩ := okN_in hN
        rw [okO_blk (by omega), Int.toNat_of_nonneg h1]; exact hN
      have := ok_short h1
      exact ⟨by omega, by omega⟩)
    clear HB0 HN hN w0 w1 w3 hc hk hv
    generalize blk c k n.toNat = X at *
    go_enter Try.func11, Try.ntmps11
    go_wp2_with fail
    refine HB.out.mono ?_
    rintro e w4 ⟨oc, ok, a1, n1, c1, a2, n2, c2, rfl, OO, hb⟩
    have X4 := Lib.hid (box_new w4 (.int .i64 oc) (.int .i64 ok) (.slice a1 n1 c1) (.slice a2 n2 c2))
    have B4 := Lib.hid (hb.trans ((below_new w4 (.cells #[.int .i64 oc, .int .i64 ok, .slice a1 n1 c1, .slice a2 n2 c2] 33)).mono hb.size))
    have O4 := Lib.hid (OO.out.kept (below_new w4 (.cells #[.int .i64 oc, .int .i64 ok, .slice a1 n1 c1, .slice a2 n2 c2] 33)))
    clear hb OO HB
    go_upto_region 2 with fail
    generalize w4.alloc (.cells #[.int .i64 oc, .int .i64 ok, .slice a1 n1 c1, .slice a2 n2 c2] 33) = w5 at *
    generalize w4.heap.size = p at *
    go_wp2_with fail
    refine (HN2.out _).mono ?_
    rintro e w6 ⟨b, off, cc, z, dc, dk, a3, n3, c3, a4, n4, c4, rfl, R6, Q6, hb⟩
    have Y6 := Lib.hid (b1_new w6 (.slice (some ⟨b, off, none⟩) 1 cc) 29)
    have X6 := Lib.hid ((X4.out.next hb).next (below_new w6 (.cells #[.slice (some ⟨b, off, none⟩) 1 cc] 29)))
    have O6 := Lib.hid ((O4.out.kept hb).kept (below_new w6 (.cells #[.slice (some ⟨b, off, none⟩) 1 cc] 29)))
    have R7 := Lib.hid (R6.out.next (below_new w6 (.cells #[.slice (some ⟨b, off, none⟩) 1 cc] 29)))
    have Q7 := Lib.hid (Q6.out.kept (below_new w6 (.cells #[.slice (some ⟨b, off, none⟩) 1 cc] 29)))
    have B6 := Lib.hid ((B4.out.trans (hb.mono B4.out.size)).trans ((below_new w6 (.cells #[.slice (some ⟨b, off, none⟩) 1 cc] 29)).mono (Nat.le_trans B4.out.size hb.size)))
    clear hb HN2 R6 Q6 X4 O4
    go_upto_region 3 with fail
    generalize w6.alloc (.cells #[.slice (some ⟨b, off, none⟩) 1 cc] 29) = w7 at *
    generalize w6.heap.size = p2 at *
    go_upto_region 7 with (first | (go_at_call 40; refine (HR1.out _).mono ?_; rintro e w8 ⟨rfl, rfl⟩) | (go_at_call 33; refine (HR2.out _).mono ?_; rintro e w8 ⟨rfl, rfl⟩))
    have HSm : Hid (∀ w', Below w7.heap.size w7 w' → Calls Try.prog 25 #[.agg #[.int .i64 oc, .int .i64 ok, .slice a1 n1 c1, .slice a2 n2 c2], .agg #[.int .i64 dc, .int .i64 dk, .slice a3 n3 c3, .slice a4 n4 c4]] w' fun e w'' => e = .returned (.bool true) ∧ Below w'.heap.size w' w'') := Lib.hid fun w' hb => same_got (O6.out.kept hb) (Q7.out.kept hb) HSh.out
    have HCl : Hid (∀ w', Below w7.heap.size w7 w' → (w'.cell? ⟨p, 0, none⟩ = some (.int .i64 oc) ∧ w'.cell? ⟨p, 1, none⟩ = some (.int .i64 ok) ∧ w'.cell? ⟨p, 2, none⟩ = some (.slice a1 n1 c1) ∧ w'.cell? ⟨p, 3, none⟩ = some (.slice a2 n2 c2)) ∧ w'.cell? ⟨p2, 0, none⟩ = some (.slice (some ⟨b, off, none⟩) 1 cc) ∧ w'.cell? ⟨b, off, none⟩ = some (.int .i64 dc) ∧ w'.cell? ⟨b, off + 1, none⟩ = some (.int .i64 dk) ∧ w'.cell? ⟨b, off + 2, none⟩ = some (.slice a3 n3 c3) ∧ w'.cell? ⟨b, off + 3, none⟩ = some (.slice a4 n4 c4)) := Lib.hid fun w' hb => ⟨(X6.out.next hb).1, (Y6.out.next hb).1, R7.out.next hb⟩
    obtain ⟨⟨x0, x1, x2, x3⟩, y0, z0, z1, z2, z3⟩ := HCl.out w7 (Below.refl _ _)
    clear HR1 HR2 hrb
    go_region_held3 (fun w' => (w'.cell? ⟨p, 0, none⟩ = some (.int .i64 oc) ∧ w'.cell? ⟨p, 1, none⟩ = some (.int .i64 ok) ∧ w'.cell? ⟨p, 2, none⟩ = some (.slice a1 n1 c1) ∧ w'.cell? ⟨p, 3, none⟩ = some (.slice a2 n2 c2)) ∧ w'.cell? ⟨p2, 0, none⟩ = some (.slice (some ⟨b, off, none⟩) 1 cc) ∧ w'.cell? ⟨b, off, none⟩ = some (.int .i64 dc) ∧ w'.cell? ⟨b, off + 1, none⟩ = some (.int .i64 dk) ∧ w'.cell? ⟨b, off + 2, none⟩ = some (.slice a3 n3 c3) ∧ w'.cell? ⟨b, off + 3, none⟩ = some (.slice a4 n4 c4)) (first | (exact HCl.out _ KB9.out) | (exact HCl.out _ KB8.out) | go_keep) (first | (go_at_call 25; refine (HSm.out _ (below_drewN _ _ _)).mono ?_; rintro e w8 ⟨rfl, hb8⟩; have KB8 : Hid (Below w7.heap.size w7 w8) := Lib.hid ((below_drewN _ _ _).trans hb8)) | (go_at_call 13; refine (HK.out _).mono ?_; rintro e w9 ⟨rfl, hb9⟩; have KB9 : Hid (Below w7.heap.size w7 w9) := Lib.hid (KB8.out.trans (hb9.mono KB8.out.size))))
    all_goals go_wp2
    all_goals go_ret
    all_goals exact ⟨rfl, B6.out.trans (KB9.out.mono B6.out.size)⟩
end Go.Proofs.Ytmaeoefimkppoaa.Fl
