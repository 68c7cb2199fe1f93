/- The document's tells: do bytes tell it? -/
import Derived.Test.YtmcikjihkgplaaaDoorKAll
namespace Go.Proofs.YtmcikjihkgplaaaDoor
set_option maxRecDepth 1000000
open Go.ChangeShapes Go.WideShapes Go.ChangeAt Go.RowKit

def tellsB (bs : List Int) (o : OpT) : Bool := decide (atE bs 0 = 0 ∧ (atO bs 0).l = (bs.length : Int) ∧ (atO bs 0).k = o.k ∧ (atO bs 0).n = o.n ∧ (atO bs 0).m = o.m)
set_option maxHeartbeats 4000000 in
theorem tells_ref {N : Nat → Prop} (v : Value) (bs : List Int) (o : OpT) (w : World) (hv : Bts N w v bs) (hb : Bytes bs) (hl : bs.length ≤ 1000000000000) :
    Calls Tryd.prog 34 #[v, .agg #[.int .i64 o.k, .int .i64 o.n, .int .i64 o.m, .int .i64 o.l]] w fun e w' => e = .returned (.bool (tellsB bs o)) ∧ Below w.heap.size w w' := by
  obtain ⟨ln, hln⟩ : ∃ n, bs.length = n := ⟨_, rfl⟩
  have HAt : Hid (∀ w', Below w.heap.size w w' → Calls Tryd.prog 13 #[v, .int .i64 0] w' (AtPost bs 0 w')) := Lib.hid fun w' hbw =>
    at_ref v bs 0 w' (Bts.only (hv.kind (M := fun b => b < w.heap.size) fun b h _ => h) ⟨hbw.os, hbw.tape, hbw.output, hbw.size, fun k hk _ => hbw.block k hk⟩ (F := fun _ => False) fun _ _ h => h) hb (by omega) (by omega)
  obtain ⟨va, c, rfl, _⟩ := Bts.form hv
  have HT : Hid (tellsB bs o = decide (atE bs 0 = 0 ∧ (atO bs 0).l = (ln : Int) ∧ (atO bs 0).k = o.k ∧ (atO bs 0).n = o.n ∧ (atO bs 0).m = o.m)) := Lib.hid (by unfold tellsB; rw [hln])
  rw [hln] at hl HAt ⊢
  generalize tellsB bs o = tb at *
  clear hv hb hln
  unfold AtPost at HAt
  generalize atO bs 0 = x at *
  generalize atE bs 0 = er at *
  have B0 := Lib.hid (box_new w (.int .i64 o.k) (.int .i64 o.n) (.int .i64 o.m) (.int .i64 o.l))
  have K0 := Lib.hid (below_new w (.cells #[.int .i64 o.k, .int .i64 o.n, .int .i64 o.m, .int .i64 o.l] 25))
  go_enter Tryd.func34, Tryd.ntmps34
  go_upto_region 1 with fail
  generalize w.alloc (.cells #[.int .i64 o.k, .int .i64 o.n, .int .i64 o.m, .int .i64 o.l] 25) = w1 at *
  go_upto_region 2 with (go_at_call 13; refine (HAt.out _ K0.out).mono ?_; rintro e w2 ⟨rfl, hb2⟩)
  have B2 := Lib.hid ((B0.out.next hb2).next (below_new w2 (.cells #[.int .i64 x.k, .int .i64 x.n, .int .i64 x.m, .int .i64 x.l] 25)))
  have B3 := Lib.hid (box_new w2 (.int .i64 x.k) (.int .i64 x.n) (.int .i64 x.m) (.int .i64 x.l))
  have K3 := Lib.hid ((K0.out.trans (hb2.mono K0.out.size)).alloc (Nat.le_trans K0.out.size hb2.size) (.cells #[.int .i64 x.k, .int .i64 x.n, .int .i64 x.m, .int .i64 x.l] 25))
  generalize w2.alloc (.cells #[.int .i64 x.k, .int .i64 x.n, .int .i64 x.m, .int .i64 x.l] 25) = w3 at *
  generalize w2.heap.size = p5 at *
  obtain ⟨⟨p0, p1, p2, p3⟩, pf, _⟩ := B2.out
  obtain ⟨⟨g0, g1, g2, g3⟩, gf, _⟩ := B3.out
  clear hb2 HAt
  by_cases e1 : er = 0
  · have f1 : (er == 0) = true := by simpa using e1
    by_cases e2 : x.l = (ln : Int)
    · have f2 : (x.l == (ln : Int)) = true := by simpa using e2
      by_cases e3 : x.k = o.k
      · have f3 : (x.k == o.k) = true := by simpa using e3
        by_cases e4 : x.n = o.n
        · have f4 : (x.n == o.n) = true := by simpa using e4
          by_cases e5 : x.m = o.m
          · have f5 : (x.m == o.m) = true := by simpa using e5
            have hT := HT.out
            rw [decide_eq_true (⟨e1, e2, e3, e4, e5⟩ : er = 0 ∧ x.l = (ln : Int) ∧ x.k = o.k ∧ x.n = o.n ∧ x.m = o.m)] at hT
            have HT2 := Lib.hid hT
            clear hT HT e1 e2 e3 e4 e5
            go_wp2_with fail
            all_goals go_ret
            all_goals exact ⟨by rw [HT2.out]; rfl, K3.out⟩
          · have f5 : (x.m == o.m) = false := by simpa using e5
            have hT := HT.out
            rw [decide_eq_false (fun h => e5 h.2.2.2.2)] at hT
            have HT2 := Lib.hid hT
            clear hT HT e1 e2 e3 e4 e5
            go_wp2_with fail
            all_goals go_ret
            all_goals exact ⟨by rw [HT2.out]; rfl, K3.out⟩
        · have f4 : (x.n == o.n) = false := by simpa using e4
          have hT := HT.out
          rw [decide_eq_false (fun h => e4 h.2.2.2.1)] at hT
          have HT2 := Lib.hid hT
          clear hT HT e1 e2 e3 e4
          go_wp2_with fail
          all_goals go_ret
          all_goals exact ⟨by rw [HT2.out]; rfl, K3.out⟩
      · have f3 : (x.k == o.k) = false := by simpa using e3
        have hT := HT.out
        rw [decide_eq_false (fun h => e3 h.2.2.1)] at hT
        have HT2 := Lib.hid hT
        clear hT HT e1 e2 e3
        go_wp2_with fail
        all_goals go_ret
        all_goals exact ⟨by rw [HT2.out]; rfl, K3.out⟩
    · have f2 : (x.l == (ln : Int)) = false := by simpa using e2
      have hT := HT.out
      rw [decide_eq_false (fun h => e2 h.2.1)] at hT
      have HT2 := Lib.hid hT
      clear hT HT e1 e2
      go_wp2_with fail
      all_goals go_ret
      all_goals exact ⟨by rw [HT2.out]; rfl, K3.out⟩
  · have f1 : (er == 0) = false := by simpa using e1
    have hT := HT.out
    rw [decide_eq_false (fun h => e1 h.1)] at hT
    have HT2 := Lib.hid hT
    clear hT HT e1
    go_wp2_with fail
    all_goals go_ret
    all_goals exact ⟨by rw [HT2.out]; rfl, K3.out⟩
end Go.Proofs.YtmcikjihkgplaaaDoor
