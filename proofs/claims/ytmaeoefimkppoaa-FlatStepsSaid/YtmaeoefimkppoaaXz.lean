/- The walk of FlatSteps: a memory answers all that is done to it as the chapter says. -/
import Derived.Test.YtmaeoefimkppoaaMh
import Derived.Deep.CutRange
import Derived.BigQuiet
import Derived.Deep.RegionHeld3
import Derived.Deep.QuietTactic
namespace Go.Proofs.Ytmaeoefimkppoaa.Fl
set_option maxRecDepth 1000000
open Go.ChangeShapes Go.WideShapes Go.ChangeAt Go.RowKit
open Go.Proofs.Ytmaeoefimkppoaa.Wd

theorem only_all {F : Nat → Prop} {w w' : World} (b : Below w.heap.size w w') : Only F w w' := ⟨b.os, b.tape, b.output, b.size, fun k hk _ => b.block k hk⟩
theorem oalloc {F : Nat → Prop} {a w : World} (h : Only F a w) (o : Obj) : Only F a (w.alloc o) := Only.trans h (only_all (below_new w o))
theorem oset {B : Nat} {a w : World} {p j : Nat} {v : Value} (h : Only (B ≤ ·) a w) (hp : B ≤ p) : Only (B ≤ ·) a (w.setCell ⟨p, j, none⟩ v) := h.setCell _ hp _
theorem only_in {B : Nat} (w w' : World) (b : Nat) (h : Only (· = b) w w') (hb : B ≤ b) : Only (B ≤ ·) w w' := ⟨h.os, h.tape, h.output, h.size, fun k hk hn => h.block k hk fun e => hn (by show B ≤ k; omega)⟩
set_option maxHeartbeats 4000000 in
theorem flatSteps_walk (W : World) (v : Value) (T : List Todo) (h : Dos W v T) (hl : T.length ≤ 5000000000000) :
    Calls Try.prog 3 #[v] W fun e W' => e = .returned (.bool true) ∧ Below W.heap.size W W' := by
  have HV := Lib.hid h
  have HLg := Lib.hid (long_any v T W h hl)
  have HK := Lib.hid (fun w => known_any w)
  have T0 := Lib.hid (two_start W)
  have HW : Hid (Below W.heap.size W (newW W)) := Lib.hid (below_new W _)
  have hsz : W.heap.size < (newW W).heap.size := by unfold newW; simp
  obtain ⟨a, c, rfl, _⟩ := h
  go_enter Try.func3, Try.ntmps3
  go_wp2_with fail
  refine HLg.out.mono ?_
  rintro e w0 ⟨b, rfl, hb, rfl⟩
  cases b with
  | true =>
    go_wp2_with (go_at_call 13; refine (HK.out _).mono ?_; rintro e w1 ⟨rfl, hb1⟩; have B1' := Lib.hid hb1)
    go_ret
    exact ⟨rfl, B1'.out⟩
  | false =>
  have hL := hb rfl
  obtain ⟨tn, htn⟩ : ∃ n, T.length = n := ⟨_, rfl⟩
  have HTN := Lib.hid htn
  rw [htn] at hL ⊢
  clear hb HLg htn hl
  go_wp2_with fail
  refine (new10_any W).mono ?_
  rintro e w0 ⟨rfl, rfl⟩
  generalize newW W = w0 at *
  go_upto_region 7 with fail
  have hpx : Hid (W.heap.size ≤ w0.heap.size) := Lib.hid (Nat.le_of_lt hsz)
  generalize w0.alloc (.cells #[.slice none 0 0] 29) = w1 at *
  generalize w0.heap.size = px at *
  go_wp2
  go_loopw [5] (fun x wr => ∃ i : Nat, i ≤ tn ∧ x = .int .i64 i ∧ ∃ E, Two W w0 wr W.heap.size px E ∧ E.length ≤ i) (fun x _ => tn - (RowKit.intOf x).toNat)
  case atStart => exact ⟨0, Nat.zero_le _, rfl, [], T0.out, Nat.le_refl _⟩
  case round =>
    clear T0
    obtain ⟨i, hi, rfl, E, ht, hE⟩ := hrel
    have TT := Lib.hid ht
    by_cases hlt : i < tn
    · have d1 : decide ((i : Int) < tn) = true := by simpa using hlt
      have d2 : decide (i < tn) = true := by simpa using hlt
      have hw3 : IntKind.i64.wrap ((i : Int) + 1) = (i : Int) + 1 := by rw [IntKind.wrap_i64]; omega
      obtain ⟨K, xa, xl, xc, L, hs, hkx, hbx, hr, hm⟩ := ht
      have SS0 := Lib.hid hs
      have KX := Lib.hid hkx
      have BX := Lib.hid hbx
      have RX := Lib.hid hr
      have ME := Lib.hid hm
      have BW : Hid (Below W.heap.size W wr) := Lib.hid (HW.out.trans (hs.2.2.below (fun g hg => hg) HW.out.size))
      obtain ⟨b', off, c', ⟨tk, ta, tb, tc⟩, he, _, hwf, ⟨x0, x1, x2, x3⟩, _⟩ := (HV.out.fresh BW.out (Nat.le_refl _)).at_ (k := i) (by rw [HTN.out]; exact hlt)
      rw [HTN.out] at he
      injection he with e1 e2 e3
      subst e1 e3
      simp only at x0 x1 x2 x3
      obtain ⟨d, hd⟩ : ∃ d : Todo, d = ⟨tk, ta, tb, tc⟩ := ⟨_, rfl⟩
      have HWF : Hid d.wf := Lib.hid (by rw [hd]; exact hwf)
      obtain ⟨rfl, rfl, rfl, rfl⟩ : tk = d.k ∧ ta = d.a ∧ tb = d.b ∧ tc = d.c := by rw [hd]; exact ⟨rfl, rfl, rfl, rfl⟩
      have hoz : OkZ (dO E d) := by
        unfold dO
        split
        · exact objF_okZ hs.1.good _
        · exact .inl rfl
      have HOS : Hid (Short (dO E d)) := Lib.hid (by have := okZ_short hoz; exact ⟨by omega, by omega⟩)
      have HD : Hid (Calls Try.prog 15 #[ifM W.heap.size, .agg #[.int .i64 d.k, .int .i64 d.a, .int .i64 d.b, .int .i64 d.c]] wr fun e w3 => ∃ a1 n1 c1 a2 n2 c2, e = .returned (.agg #[.int .i64 (dN E d), .int .i64 (dO E d).c, .int .i64 (dO E d).k, .slice a1 n1 c1, .slice a2 n2 c2, .bool (dB E d), .int .i64 (dE E d)]) ∧ Hid (∀ wy, Keeps (fun g => wr.heap.size ≤ g ∧ g < w3.heap.size) w3 wy → ObjAt wy (.agg #[.int .i64 (dO E d).c, .int .i64 (dO E d).k, .slice a1 n1 c1, .slice a2 n2 c2]) (dO E d)) ∧ Hid (MemB K w3 W.heap.size (dF E d)) ∧ Hid (Keeps K wr w3)) :=
        Lib.hid ((done_any hs.1 (by omega) d HWF.out).mono fun e w3 ⟨z, u, he, ho, hm, hk⟩ => by
          obtain ⟨zz, uu, hzz, hz1, hz2⟩ := ho
          simp only [Value.agg.injEq, Array.mk.injEq, List.cons.injEq, true_and, and_true] at hzz
          obtain ⟨rfl, rfl⟩ := hzz
          obtain ⟨a1, c1, hf1⟩ := own_form hz1
          obtain ⟨a2, c2, hf2⟩ := own_form hz2
          subst hf1 hf2
          exact ⟨a1, _, c1, a2, _, c2, he, Lib.hid fun wy k => OwnO.obj (q := wr.heap.size) ⟨_, _, rfl, k.own hz1 (fun g hg => ⟨(hz1.lt g hg).1, (hz1.lt g hg).2⟩), k.own hz2 (fun g hg => ⟨(hz2.lt g hg).1, (hz2.lt g hg).2⟩)⟩ hoz, hm, hk⟩)
      have HSt : Hid (∀ w' M, RmV M w' (.slice xa xl xc) L → Calls Try.prog 16 #[.agg #[.slice xa xl xc], .agg #[.int .i64 d.k, .int .i64 d.a, .int .i64 d.b, .int .i64 d.c]] w' (StpF M (dF E d) (dN E d) (dO E d) (dB E d) (dE E d) w')) := Lib.hid fun w' M hm' => by
        have hll : L.length ≤ 1000000 := by rw [← memR_len, hm]; exact hs.1.few
        have := step_any (hm'.kind (M := fun g => M g ∧ g < w'.heap.size) fun g h1 h2 => ⟨h2, h1⟩) hll d HWF.out
        rw [hm] at this
        exact this.mono fun e w'' hp => hp.forms
      have HLen : Hid ((dF E d).length ≤ i + 1) := Lib.hid (by have := dF_len E d; omega)
      generalize dF E d = E1 at *
      generalize dN E d = nn at *
      generalize dO E d = oo at *
      generalize dB E d = bo at *
      generalize dE E d = te at *
      have HXC := Lib.hid (And.intro x0 (And.intro x1 (And.intro x2 x3)))
      have hbl := World.block_lt_of_cell? _ _ x0
      have HBL : Hid (b' < W.heap.size) := Lib.hid (by
        obtain ⟨b9, off9, c9, t9, he9, _, _, ⟨y0, _⟩, _⟩ := HV.out.at_ (k := i) (by rw [HTN.out]; exact hlt)
        injection he9 with f1 _ _
        injection f1 with f1
        injection f1 with f1 _ _
        subst f1
        exact World.block_lt_of_cell? _ _ y0)
      clear hs hkx hbx hr hm hwf e2 hd hbl hoz
      go_upto_region 11 with (go_at_call 15; refine HD.out.mono ?_; rintro e w3 ⟨a1, n1, c1, a2, n2, c2, rfl, O3, M3, K3⟩)
      have B3 : Hid (Below W.heap.size wr w3) := Lib.hid (K3.out.below SS0.out.2.1 BW.out.size)
      have O4 : Hid (∀ wy, Keeps (fun g => wr.heap.size ≤ g ∧ g < w3.heap.size) (w3.alloc (.cells #[.int .i64 nn, .int .i64 oo.c, .int .i64 oo.k, .slice a1 n1 c1, .slice a2 n2 c2, .bool bo, .int .i64 te] 35)) wy → ObjAt wy (.agg #[.int .i64 oo.c, .int .i64 oo.k, .slice a1 n1 c1, .slice a2 n2 c2]) oo) := Lib.hid fun wy k => O3.out wy ((Keeps.of_below (below_new _ _)).trans k)
      have HP6 : Hid (px < w3.heap.size) := Lib.hid (Nat.lt_of_lt_of_le BX.out.2.2 K3.out.size)
      have HPR : Hid (px < wr.heap.size) := Lib.hid BX.out.2.2
      have M4 := Lib.hid (M3.out.fresh (below_new w3 (.cells #[.int .i64 nn, .int .i64 oo.c, .int .i64 oo.k, .slice a1 n1 c1, .slice a2 n2 c2, .bool bo, .int .i64 te] 35)))
      have K4 := Lib.hid (K3.out.trans (Keeps.of_below (below_new w3 (.cells #[.int .i64 nn, .int .i64 oo.c, .int .i64 oo.k, .slice a1 n1 c1, .slice a2 n2 c2, .bool bo, .int .i64 te] 35))))
      have P4 := Lib.hid (tb_new w3 nn oo.c oo.k (.slice a1 n1 c1) (.slice a2 n2 c2) bo te 35)
      generalize w3.alloc (.cells #[.int .i64 nn, .int .i64 oo.c, .int .i64 oo.k, .slice a1 n1 c1, .slice a2 n2 c2, .bool bo, .int .i64 te] 35) = w4 at *
      generalize w3.heap.size = p6 at *
      have BX4 := Lib.hid (BX.out.only K4.out fun hn => hn KX.out)
      have RX4 := Lib.hid (RX.out.keeps (K4.out.mono fun g hg => hg.1))
      have X4 : Hid (w4.cell? ⟨b', off + i * 4, none⟩ = some (.int .i64 d.k) ∧ w4.cell? ⟨b', off + i * 4 + 1, none⟩ = some (.int .i64 d.a) ∧ w4.cell? ⟨b', off + i * 4 + 2, none⟩ = some (.int .i64 d.b) ∧ w4.cell? ⟨b', off + i * 4 + 3, none⟩ = some (.int .i64 d.c)) := Lib.hid (by
        have hb4 := K4.out.below SS0.out.2.1 BW.out.size
        have q : ∀ j, w4.cell? ⟨b', j, none⟩ = wr.cell? ⟨b', j, none⟩ := fun j => hb4.cell (p := ⟨b', j, none⟩) HBL.out
        exact ⟨(q _).trans HXC.out.1, (q _).trans HXC.out.2.1, (q _).trans HXC.out.2.2.1, (q _).trans HXC.out.2.2.2⟩)
      clear x0 x1 x2 x3 O3 M3 K3 B3 HD
      obtain ⟨y0, yf, yl⟩ := BX4.out
      obtain ⟨x0, x1, x2, x3⟩ := X4.out
      have HBL4 : Hid (b' < w4.heap.size ∧ px < w4.heap.size) := Lib.hid ⟨Nat.lt_of_lt_of_le HBL.out (Nat.le_trans BW.out.size K4.out.size), yl⟩
      have HKO : Hid (∀ wa wb : World, Only (w4.heap.size ≤ ·) wa wb → (wa.cell? ⟨px, 0, none⟩ = some (.slice xa xl xc) ∧ wa.cell? ⟨b', off + i * 4, none⟩ = some (.int .i64 d.k) ∧ wa.cell? ⟨b', off + i * 4 + 1, none⟩ = some (.int .i64 d.a) ∧ wa.cell? ⟨b', off + i * 4 + 2, none⟩ = some (.int .i64 d.b) ∧ wa.cell? ⟨b', off + i * 4 + 3, none⟩ = some (.int .i64 d.c) ∧ Hid (Below w4.heap.size w4 wa)) → (wb.cell? ⟨px, 0, none⟩ = some (.slice xa xl xc) ∧ wb.cell? ⟨b', off + i * 4, none⟩ = some (.int .i64 d.k) ∧ wb.cell? ⟨b', off + i * 4 + 1, none⟩ = some (.int .i64 d.a) ∧ wb.cell? ⟨b', off + i * 4 + 2, none⟩ = some (.int .i64 d.b) ∧ wb.cell? ⟨b', off + i * 4 + 3, none⟩ = some (.int .i64 d.c) ∧ Hid (Below w4.heap.size w4 wb))) := Lib.hid fun wa wb o h => by
        have q1 : ∀ j (v : Value), wa.cell? ⟨px, j, none⟩ = some v → wb.cell? ⟨px, j, none⟩ = some v := fun j v hv => (Only.cell o (p := ⟨px, j, none⟩) (World.block_lt_of_cell? _ _ hv) (by have := HBL4.out.2; show ¬ w4.heap.size ≤ px; omega)).trans hv
        have q2 : ∀ j (v : Value), wa.cell? ⟨b', j, none⟩ = some v → wb.cell? ⟨b', j, none⟩ = some v := fun j v hv => (Only.cell o (p := ⟨b', j, none⟩) (World.block_lt_of_cell? _ _ hv) (by have := HBL4.out.1; show ¬ w4.heap.size ≤ b'; omega)).trans hv
        exact ⟨q1 _ _ h.1, q2 _ _ h.2.1, q2 _ _ h.2.2.1, q2 _ _ h.2.2.2.1, q2 _ _ h.2.2.2.2.1, Lib.hid (h.2.2.2.2.2.out.trans (Only.below (B := w4.heap.size) o (fun i hi e => by omega) h.2.2.2.2.2.out.size))⟩
      have HKB : Hid (∀ wa wb : World, Below wa.heap.size wa wb → (wa.cell? ⟨px, 0, none⟩ = some (.slice xa xl xc) ∧ wa.cell? ⟨b', off + i * 4, none⟩ = some (.int .i64 d.k) ∧ wa.cell? ⟨b', off + i * 4 + 1, none⟩ = some (.int .i64 d.a) ∧ wa.cell? ⟨b', off + i * 4 + 2, none⟩ = some (.int .i64 d.b) ∧ wa.cell? ⟨b', off + i * 4 + 3, none⟩ = some (.int .i64 d.c) ∧ Hid (Below w4.heap.size w4 wa)) → (wb.cell? ⟨px, 0, none⟩ = some (.slice xa xl xc) ∧ wb.cell? ⟨b', off + i * 4, none⟩ = some (.int .i64 d.k) ∧ wb.cell? ⟨b', off + i * 4 + 1, none⟩ = some (.int .i64 d.a) ∧ wb.cell? ⟨b', off + i * 4 + 2, none⟩ = some (.int .i64 d.b) ∧ wb.cell? ⟨b', off + i * 4 + 3, none⟩ = some (.int .i64 d.c) ∧ Hid (Below w4.heap.size w4 wb))) := Lib.hid fun wa wb b h => HKO.out wa wb ⟨b.os, b.tape, b.output, b.size, fun k hk _ => b.block k hk⟩ h
      have S00 : w4.cell? ⟨px, 0, none⟩ = some (.slice xa xl xc) ∧ w4.cell? ⟨b', off + i * 4, none⟩ = some (.int .i64 d.k) ∧ w4.cell? ⟨b', off + i * 4 + 1, none⟩ = some (.int .i64 d.a) ∧ w4.cell? ⟨b', off + i * 4 + 2, none⟩ = some (.int .i64 d.b) ∧ w4.cell? ⟨b', off + i * 4 + 3, none⟩ = some (.int .i64 d.c) ∧ Hid (Below w4.heap.size w4 w4) := ⟨y0, x0, x1, x2, x3, Lib.hid (Below.refl _ _)⟩
      have S0 : w4.drew.cell? ⟨px, 0, none⟩ = some (.slice xa xl xc) ∧ w4.drew.cell? ⟨b', off + i * 4, none⟩ = some (.int .i64 d.k) ∧ w4.drew.cell? ⟨b', off + i * 4 + 1, none⟩ = some (.int .i64 d.a) ∧ w4.drew.cell? ⟨b', off + i * 4 + 2, none⟩ = some (.int .i64 d.b) ∧ w4.drew.cell? ⟨b', off + i * 4 + 3, none⟩ = some (.int .i64 d.c) ∧ Hid (Below w4.heap.size w4 w4.drew) := HKB.out _ _ (below_drewN _ _ 1) S00
      have SA : (w4.alloc (.cells #[.slice none 0 0] 29)).drew.cell? ⟨px, 0, none⟩ = some (.slice xa xl xc) ∧ (w4.alloc (.cells #[.slice none 0 0] 29)).drew.cell? ⟨b', off + i * 4, none⟩ = some (.int .i64 d.k) ∧ (w4.alloc (.cells #[.slice none 0 0] 29)).drew.cell? ⟨b', off + i * 4 + 1, none⟩ = some (.int .i64 d.a) ∧ (w4.alloc (.cells #[.slice none 0 0] 29)).drew.cell? ⟨b', off + i * 4 + 2, none⟩ = some (.int .i64 d.b) ∧ (w4.alloc (.cells #[.slice none 0 0] 29)).drew.cell? ⟨b', off + i * 4 + 3, none⟩ = some (.int .i64 d.c) ∧ Hid (Below w4.heap.size w4 (w4.alloc (.cells #[.slice none 0 0] 29)).drew) := HKB.out _ _ (below_drewN _ _ 1) (HKB.out _ _ (below_new _ _) S00)
      have SB : (w4.alloc (.cells #[.int .i64 0, .int .i64 0, .int .i64 0, .slice none 0 0, .slice none 0 0, .bool false, .int .i64 0] 35)).drew.cell? ⟨px, 0, none⟩ = some (.slice xa xl xc) ∧ (w4.alloc (.cells #[.int .i64 0, .int .i64 0, .int .i64 0, .slice none 0 0, .slice none 0 0, .bool false, .int .i64 0] 35)).drew.cell? ⟨b', off + i * 4, none⟩ = some (.int .i64 d.k) ∧ (w4.alloc (.cells #[.int .i64 0, .int .i64 0, .int .i64 0, .slice none 0 0, .slice none 0 0, .bool false, .int .i64 0] 35)).drew.cell? ⟨b', off + i * 4 + 1, none⟩ = some (.int .i64 d.a) ∧ (w4.alloc (.cells #[.int .i64 0, .int .i64 0, .int .i64 0, .slice none 0 0, .slice none 0 0, .bool false, .int .i64 0] 35)).drew.cell? ⟨b', off + i * 4 + 2, none⟩ = some (.int .i64 d.b) ∧ (w4.alloc (.cells #[.int .i64 0, .int .i64 0, .int .i64 0, .slice none 0 0, .slice none 0 0, .bool false, .int .i64 0] 35)).drew.cell? ⟨b', off + i * 4 + 3, none⟩ = some (.int .i64 d.c) ∧ Hid (Below w4.heap.size w4 (w4.alloc (.cells #[.int .i64 0, .int .i64 0, .int .i64 0, .slice none 0 0, .slice none 0 0, .bool false, .int .i64 0] 35)).drew) := HKB.out _ _ (below_drewN _ _ 1) (HKB.out _ _ (below_new _ _) S00)
      have SAB : ((w4.alloc (.cells #[.slice none 0 0] 29)).alloc (.cells #[.int .i64 0, .int .i64 0, .int .i64 0, .slice none 0 0, .slice none 0 0, .bool false, .int .i64 0] 35)).drew.cell? ⟨px, 0, none⟩ = some (.slice xa xl xc) ∧ ((w4.alloc (.cells #[.slice none 0 0] 29)).alloc (.cells #[.int .i64 0, .int .i64 0, .int .i64 0, .slice none 0 0, .slice none 0 0, .bool false, .int .i64 0] 35)).drew.cell? ⟨b', off + i * 4, none⟩ = some (.int .i64 d.k) ∧ ((w4.alloc (.cells #[.slice none 0 0] 29)).alloc (.cells #[.int .i64 0, .int .i64 0, .int .i64 0, .slice none 0 0, .slice none 0 0, .bool false, .int .i64 0] 35)).drew.cell? ⟨b', off + i * 4 + 1, none⟩ = some (.int .i64 d.a) ∧ ((w4.alloc (.cells #[.slice none 0 0] 29)).alloc (.cells #[.int .i64 0, .int .i64 0, .int .i64 0, .slice none 0 0, .slice none 0 0, .bool false, .int .i64 0] 35)).drew.cell? ⟨b', off + i * 4 + 2, none⟩ = some (.int .i64 d.b) ∧ ((w4.alloc (.cells #[.slice none 0 0] 29)).alloc (.cells #[.int .i64 0, .int .i64 0, .int .i64 0, .slice none 0 0, .slice none 0 0, .bool false, .int .i64 0] 35)).drew.cell? ⟨b', off + i * 4 + 3, none⟩ = some (.int .i64 d.c) ∧ Hid (Below w4.heap.size w4 ((w4.alloc (.cells #[.slice none 0 0] 29)).alloc (.cells #[.int .i64 0, .int .i64 0, .int .i64 0, .slice none 0 0, .slice none 0 0, .bool false, .int .i64 0] 35)).drew) := HKB.out _ _ (below_drewN _ _ 1) (HKB.out _ _ (below_new _ _) (HKB.out _ _ (below_new _ _) S00))
      have SBA : ((w4.alloc (.cells #[.int .i64 0, .int .i64 0, .int .i64 0, .slice none 0 0, .slice none 0 0, .bool false, .int .i64 0] 35)).alloc (.cells #[.slice none 0 0] 29)).drew.cell? ⟨px, 0, none⟩ = some (.slice xa xl xc) ∧ ((w4.alloc (.cells #[.int .i64 0, .int .i64 0, .int .i64 0, .slice none 0 0, .slice none 0 0, .bool false, .int .i64 0] 35)).alloc (.cells #[.slice none 0 0] 29)).drew.cell? ⟨b', off + i * 4, none⟩ = some (.int .i64 d.k) ∧ ((w4.alloc (.cells #[.int .i64 0, .int .i64 0, .int .i64 0, .slice none 0 0, .slice none 0 0, .bool false, .int .i64 0] 35)).alloc (.cells #[.slice none 0 0] 29)).drew.cell? ⟨b', off + i * 4 + 1, none⟩ = some (.int .i64 d.a) ∧ ((w4.alloc (.cells #[.int .i64 0, .int .i64 0, .int .i64 0, .slice none 0 0, .slice none 0 0, .bool false, .int .i64 0] 35)).alloc (.cells #[.slice none 0 0] 29)).drew.cell? ⟨b', off + i * 4 + 2, none⟩ = some (.int .i64 d.b) ∧ ((w4.alloc (.cells #[.int .i64 0, .int .i64 0, .int .i64 0, .slice none 0 0, .slice none 0 0, .bool false, .int .i64 0] 35)).alloc (.cells #[.slice none 0 0] 29)).drew.cell? ⟨b', off + i * 4 + 3, none⟩ = some (.int .i64 d.c) ∧ Hid (Below w4.heap.size w4 ((w4.alloc (.cells #[.int .i64 0, .int .i64 0, .int .i64 0, .slice none 0 0, .slice none 0 0, .bool false, .int .i64 0] 35)).alloc (.cells #[.slice none 0 0] 29)).drew) := HKB.out _ _ (below_drewN _ _ 1) (HKB.out _ _ (below_new _ _) (HKB.out _ _ (below_new _ _) S00))
      have HCall : Hid (∀ wa : World, (wa.cell? ⟨px, 0, none⟩ = some (.slice xa xl xc) ∧ wa.cell? ⟨b', off + i * 4, none⟩ = some (.int .i64 d.k) ∧ wa.cell? ⟨b', off + i * 4 + 1, none⟩ = some (.int .i64 d.a) ∧ wa.cell? ⟨b', off + i * 4 + 2, none⟩ = some (.int .i64 d.b) ∧ wa.cell? ⟨b', off + i * 4 + 3, none⟩ = some (.int .i64 d.c) ∧ Hid (Below w4.heap.size w4 wa)) → Calls Try.prog 16 #[.agg #[.slice xa xl xc], .agg #[.int .i64 d.k, .int .i64 d.a, .int .i64 d.b, .int .i64 d.c]] wa (StpF (fun g => (K g ∧ g ≠ px) ∧ g < w4.heap.size) E1 nn oo bo te wa)) := Lib.hid fun wa h => HSt.out wa _ ((RX4.out.kind (M := fun g => (K g ∧ g ≠ px) ∧ g < w4.heap.size) fun b h1 h2 => ⟨h2, h1⟩).fresh h.2.2.2.2.2.out)
      have HM : Hid (∀ g, (fun g => (K g ∧ g ≠ px) ∧ g < w4.heap.size) g → g < w4.heap.size) := Lib.hid fun g h => h.2
      have hi0 : (0 : Int) ≤ i := by omega
      have hil : (i : Int) < tn := by omega
      clear S00
      go_cut [7, 8] from 24 to 58 (P11 (fun g => (K g ∧ g ≠ px) ∧ g < w4.heap.size) E1 nn oo bo te w4)
      case first =>
        go_region_held3 (fun wa => wa.cell? ⟨px, 0, none⟩ = some (.slice xa xl xc) ∧ wa.cell? ⟨b', off + i * 4, none⟩ = some (.int .i64 d.k) ∧ wa.cell? ⟨b', off + i * 4 + 1, none⟩ = some (.int .i64 d.a) ∧ wa.cell? ⟨b', off + i * 4 + 2, none⟩ = some (.int .i64 d.b) ∧ wa.cell? ⟨b', off + i * 4 + 3, none⟩ = some (.int .i64 d.c) ∧ Hid (Below w4.heap.size w4 wa)) (first | (with_reducible assumption) | (with_reducible exact S0) | (with_reducible exact SA) | (with_reducible exact SB) | (with_reducible exact SAB) | (with_reducible exact SBA) | (with_reducible exact S5.out) | (refine HKO.out w5 _ ?_ S5.out; (repeat (first | with_reducible refine oalloc ?_ _ | with_reducible refine oset ?_ (by first | exact Nat.le_refl _ | omega))); with_reducible exact Only.refl _ _)) (first | (go_at_call 16; refine (HCall.out _ (by with_reducible exact SAB)).mono ?_; rintro e w5 ⟨a', l', c', a3, n3, c3, a4, n4, c4, rfl, TF, hb5⟩; have S5 := Lib.hid (HKB.out _ _ hb5 SAB); have hs5 : w4.heap.size ≤ w5.heap.size := S5.out.2.2.2.2.2.out.size; have XX := Lib.hid (p_ab w4 w5 ⟨hb5.os, hb5.tape, hb5.output, hb5.size, hb5.block⟩); obtain ⟨g0, gf, _⟩ := XX.out.1; obtain ⟨k0, k1, k2, k3, k4, k5, k6, kf⟩ := XX.out.2.cz) | (go_at_call 16; refine (HCall.out _ (by with_reducible exact SBA)).mono ?_; rintro e w5 ⟨a', l', c', a3, n3, c3, a4, n4, c4, rfl, TF, hb5⟩; have S5 := Lib.hid (HKB.out _ _ hb5 SBA); have hs5 : w4.heap.size ≤ w5.heap.size := S5.out.2.2.2.2.2.out.size; have XX := Lib.hid (p_ba w4 w5 ⟨hb5.os, hb5.tape, hb5.output, hb5.size, hb5.block⟩); obtain ⟨g0, gf, _⟩ := XX.out.2; obtain ⟨k0, k1, k2, k3, k4, k5, k6, kf⟩ := XX.out.1.cz) | (go_at_call 16; refine (HCall.out _ (by with_reducible exact SA)).mono ?_; rintro e w5 ⟨a', l', c', a3, n3, c3, a4, n4, c4, rfl, TF, hb5⟩; have S5 := Lib.hid (HKB.out _ _ hb5 SA); have hs5 : w4.heap.size ≤ w5.heap.size := S5.out.2.2.2.2.2.out.size; have XX := Lib.hid (p_a w4 w5 ⟨hb5.os, hb5.tape, hb5.output, hb5.size, hb5.block⟩); have hlt5 : w4.heap.size < w5.heap.size := XX.out.2.2; have hn1 := Nat.ne_of_lt hlt5; have hn2 := (Nat.ne_of_lt hlt5).symm; obtain ⟨g0, gf, _⟩ := XX.out) | (go_at_call 16; refine (HCall.out _ (by with_reducible exact SB)).mono ?_; rintro e w5 ⟨a', l', c', a3, n3, c3, a4, n4, c4, rfl, TF, hb5⟩; have S5 := Lib.hid (HKB.out _ _ hb5 SB); have hs5 : w4.heap.size ≤ w5.heap.size := S5.out.2.2.2.2.2.out.size; have XX := Lib.hid (p_b w4 w5 ⟨hb5.os, hb5.tape, hb5.output, hb5.size, hb5.block⟩); have hlt5 : w4.heap.size < w5.heap.size := XX.out.2.2; have hn1 := Nat.ne_of_lt hlt5; have hn2 := (Nat.ne_of_lt hlt5).symm; obtain ⟨k0, k1, k2, k3, k4, k5, k6, kf⟩ := XX.out.cz) | (go_at_call 16; refine (HCall.out _ (by with_reducible exact S0)).mono ?_; rintro e w5 ⟨a', l', c', a3, n3, c3, a4, n4, c4, rfl, TF, hb5⟩; have S5 := Lib.hid (HKB.out _ _ hb5 S0); have hs5 : w4.heap.size ≤ w5.heap.size := S5.out.2.2.2.2.2.out.size))
        all_goals (go_wp2_with fail; go_meet; first | (with_reducible refine q_1 HM.out ?_ ?_) | (with_reducible refine q_2 HM.out ?_ ?_) | (with_reducible refine q_3 HM.out ?_ ?_) | (with_reducible refine q_4a HM.out ?_ ?_) | (with_reducible refine q_4b HM.out ?_ ?_) | (with_reducible refine q_5 HM.out ?_ ?_) | (with_reducible refine q_6a HM.out ?_ ?_) | (with_reducible refine q_6b HM.out ?_ ?_))
        all_goals first | exact TF.out | exact ⟨hb5.os, hb5.tape, hb5.output, hb5.size, hb5.block⟩
      case rest =>
        clear S0 SA SB SAB SBA HCall HKB HKO HSt
        obtain ⟨p7, p8, a', l', c', a3, n3, c3, a4, n4, c4, rfl, rfl, B7, T8, H7, B4, G4⟩ := hcut
        have BC := Lib.hid (BX4.out.next B4.out)
        have H12 := Lib.hid (show px < p7 ∧ px < p8 ∧ px ≠ p6 ∧ px ≠ p8 by have := H7.out; have := HBL4.out.2; have := HP6.out; omega)
        obtain ⟨N, L', hN, hR, hm, hI⟩ := G4.out
        obtain rfl : l' = E1.length := by
          obtain ⟨_, _, hf⟩ := hR.form
          injection hf with _ h2 _
          rw [h2, ← hm, memR_len]
        have hRK : RmV (fun g => (K g ∨ (w4.heap.size ≤ g ∧ g < wc.heap.size)) ∧ g ≠ px) wc (.slice a' E1.length c') L' := hR.kind fun g h1 h2 => by
          have := HBL4.out.2
          rcases hN g h2 with h3 | h3
          · exact ⟨.inl h3.1.1, h3.1.2⟩
          · exact ⟨.inr ⟨h3, h1⟩, by omega⟩
        have hSt : St W w0 (fun g => K g ∨ (w4.heap.size ≤ g ∧ g < wc.heap.size)) wc W.heap.size E1 :=
          ⟨M4.out.keep B4.out fun g hg => hg, fun g hg => .inl (SS0.out.2.1 g hg), SS0.out.2.2.trans ((K4.out.trans (Keeps.of_below B4.out)).mono SS0.out.2.1)⟩
        have TW := Lib.hid (two_put hpx.out hSt (.inl KX.out) BC.out hRK hm)
        have o12 := only_set wc px 0 (.slice a' E1.length c')
        have P5 := Lib.hid ((P4.out.only (only_below B4.out) id).only o12 fun e => H12.out.2.2.1 e.symm)
        have T5 := Lib.hid (T8.out.only o12 fun e => H12.out.2.2.2 e.symm)
        have C5 := Lib.hid (BC.out.put (.slice a' E1.length c'))
        have O5 := Lib.hid (O4.out _ ((Keeps.of_below B4.out).trans (⟨o12.os, o12.tape, o12.output, o12.size, fun g hg hn => o12.block g hg fun e => hn fun h => by have := HPR.out; have := h.1; omega⟩ : Keeps (fun g => wr.heap.size ≤ g ∧ g < p6) wc (wc.setCell ⟨px, 0, none⟩ (.slice a' E1.length c')))))
        have hU : RIn N (wc.setCell ⟨px, 0, none⟩ (.slice a' E1.length c')) (oo, .slice a3 n3 c3, .slice a4 n4 c4) := hI.only o12 fun g hg e => by
          have := HBL4.out.2
          rcases hN g hg with h3 | h3
          · exact h3.1.2 e
          · omega
        have U5 := Lib.hid hU.obj
        clear hU hSt hRK hN hR hm hI G4 o12 O4 M4 K4 P4 RX4 X4 x0 x1 x2 x3 HM
        have b7 := B7.out.1
        obtain ⟨_, bf, _⟩ := BC.out
        have bc := BC.out.1
        go_upto_region 13 with fail
        generalize wc.setCell ⟨px, 0, none⟩ (.slice a' E1.length c') = wd at *
        clear b7 bf bc
        have HSm : Hid (∀ w', Below wd.heap.size wd w' → Calls Try.prog 17 #[.agg #[.int .i64 nn, .int .i64 oo.c, .int .i64 oo.k, .slice a1 n1 c1, .slice a2 n2 c2, .bool bo, .int .i64 te], .agg #[.int .i64 nn, .int .i64 oo.c, .int .i64 oo.k, .slice a3 n3 c3, .slice a4 n4 c4, .bool bo, .int .i64 te]] w' fun e w'' => e = .returned (.bool true) ∧ Below w'.heap.size w' w'') := Lib.hid fun w' b => told_same (O5.out.kept b) (U5.out.kept b) HOS.out
        have HMd : Hid (∀ w', Below wd.heap.size wd w' → Calls Try.prog 18 #[.pointer (some ⟨W.heap.size, 0, none⟩)] w' fun e w'' => e = .returned (.int .i64 (E1.length : Nat)) ∧ w' = w'') := Lib.hid fun w' b => by
          obtain ⟨K9, _, _, _, _, hs9, _⟩ := TW.out.next b
          exact made_any hs9.1
        have HCl : Hid (∀ w', Below wd.heap.size wd w' → (w'.cell? ⟨p6, 0, none⟩ = some (.int .i64 nn) ∧ w'.cell? ⟨p6, 1, none⟩ = some (.int .i64 oo.c) ∧ w'.cell? ⟨p6, 1 + 1, none⟩ = some (.int .i64 oo.k) ∧ w'.cell? ⟨p6, 1 + 2, none⟩ = some (.slice a1 n1 c1) ∧ w'.cell? ⟨p6, 1 + 3, none⟩ = some (.slice a2 n2 c2) ∧ w'.cell? ⟨p6, 5, none⟩ = some (.bool bo) ∧ w'.cell? ⟨p6, 6, none⟩ = some (.int .i64 te)) ∧ (w'.cell? ⟨p8, 0, none⟩ = some (.int .i64 nn) ∧ w'.cell? ⟨p8, 1, none⟩ = some (.int .i64 oo.c) ∧ w'.cell? ⟨p8, 1 + 1, none⟩ = some (.int .i64 oo.k) ∧ w'.cell? ⟨p8, 1 + 2, none⟩ = some (.slice a3 n3 c3) ∧ w'.cell? ⟨p8, 1 + 3, none⟩ = some (.slice a4 n4 c4) ∧ w'.cell? ⟨p8, 5, none⟩ = some (.bool bo) ∧ w'.cell? ⟨p8, 6, none⟩ = some (.int .i64 te)) ∧ w'.cell? ⟨px, 0, none⟩ = some (.slice a' E1.length c')) := Lib.hid fun w' b => ⟨(P5.out.only (only_below b) id).c7, (T5.out.only (only_below b) id).c7, (C5.out.next b).1⟩
        generalize hEl : E1.length = el at *
        have HEL := Lib.hid hEl
        clear hEl P5 T5 C5 O5 U5 TT B7 T8 H7 H12 BC
        have HLn : Hid (el ≤ i + 1) := Lib.hid HLen.out
        obtain ⟨⟨x0, x1, x2, x3, x4, x5, x6⟩, ⟨z0, z1, z2, z3, z4, z5, z6⟩, y0⟩ := HCl.out wd (Below.refl _ _)
        have e1 : ((el : Int) != el) = false := by simp
        go_region_held3 (fun w' => (w'.cell? ⟨p6, 0, none⟩ = some (.int .i64 nn) ∧ w'.cell? ⟨p6, 1, none⟩ = some (.int .i64 oo.c) ∧ w'.cell? ⟨p6, 1 + 1, none⟩ = some (.int .i64 oo.k) ∧ w'.cell? ⟨p6, 1 + 2, none⟩ = some (.slice a1 n1 c1) ∧ w'.cell? ⟨p6, 1 + 3, none⟩ = some (.slice a2 n2 c2) ∧ w'.cell? ⟨p6, 5, none⟩ = some (.bool bo) ∧ w'.cell? ⟨p6, 6, none⟩ = some (.int .i64 te)) ∧ (w'.cell? ⟨p8, 0, none⟩ = some (.int .i64 nn) ∧ w'.cell? ⟨p8, 1, none⟩ = some (.int .i64 oo.c) ∧ w'.cell? ⟨p8, 1 + 1, none⟩ = some (.int .i64 oo.k) ∧ w'.cell? ⟨p8, 1 + 2, none⟩ = some (.slice a3 n3 c3) ∧ w'.cell? ⟨p8, 1 + 3, none⟩ = some (.slice a4 n4 c4) ∧ w'.cell? ⟨p8, 5, none⟩ = some (.bool bo) ∧ w'.cell? ⟨p8, 6, none⟩ = some (.int .i64 te)) ∧ w'.cell? ⟨px, 0, none⟩ = some (.slice a' el c')) (first | (with_reducible exact HCl.out _ KB8.out) | go_keep) (first | (go_at_call 17; refine (HSm.out _ (below_drewN _ _ _)).mono ?_; rintro e w8 ⟨rfl, hb8⟩; have KB8 : Hid (Below wd.heap.size wd w8) := Lib.hid ((below_drewN _ _ _).trans hb8)) | (go_at_call 18; refine (HMd.out _ KB8.out).mono ?_; rintro e w9 ⟨rfl, rfl⟩))
        all_goals go_wp2
        all_goals exact ⟨⟨i + 1, by omega, by go_num, E1, TW.out.next KB8.out, by rw [HEL.out]; exact HLn.out⟩, by simp [RowKit.intOf]; omega⟩
    · obtain rfl : i = tn := by omega
      obtain ⟨K, xa, xl, xc, L, hs, hkx, hbx, hr, hm⟩ := ht
      obtain rfl : xl = E.length := by
        obtain ⟨_, _, hf⟩ := hr.form
        injection hf with _ h2 _
        rw [h2, ← hm, memR_len]
      have S1 := Lib.hid hs
      have KX := Lib.hid hkx
      have BX := Lib.hid hbx
      have RX := Lib.hid hr
      have ME := Lib.hid hm
      have HE : Hid (E.length ≤ 150) := Lib.hid (by omega)
      have ML : Hid (L.length = E.length) := Lib.hid (by rw [← hm, memR_len])
      clear hs hkx hbx hr hm TT hE hlt hi
      have hd : decide ((i : Int) < i) = false := by simp
      go_wp2_with fail
      refine (st_all S1.out).mono ?_
      rintro e v2 ⟨wa, wcc, rfl, GG⟩
      obtain ⟨K2, s2, i2, k2, r2⟩ := GG.out
      have S2 := Lib.hid s2
      have R2 := Lib.hid r2
      have BX2 := Lib.hid (BX.out.only k2 fun hn => hn KX.out)
      have RX2 := Lib.hid (RX.out.keeps (k2.mono fun g hg => hg.1))
      clear GG s2 i2 k2 r2 S1 BX RX
      obtain ⟨y0, _, _⟩ := BX2.out
      have t1 : (twoL (ids E)).length = (ids E).length := by simp [twoL]
      have hlE : (ids E).length ≤ 150 := Nat.le_trans (ids_le E) HE.out
      have T1 := Lib.hid t1
      have HA0 := all10_ref RX2.out (by rw [ML.out]; have := HE.out; omega)
      rw [ME.out] at HA0
      rw [t1]
      clear t1
      obtain ⟨nA, hnA⟩ : ∃ n, (ids E).length = n := ⟨_, rfl⟩
      rw [hnA] at hlE ⊢
      have HNA := Lib.hid hnA
      clear hnA
      obtain ⟨nE, hnE⟩ : ∃ n, E.length = n := ⟨_, rfl⟩
      rw [hnE] at y0 HA0
      have HA := Lib.hid HA0
      clear HA0
      have HNE := Lib.hid hnE
      clear hnE
      go_wp2_with fail
      refine HA.out.mono ?_
      rintro e v3 ⟨v9, rfl, hrow, hb3⟩
      have S3 := Lib.hid (st_next S2.out hb3)
      have R3 := Lib.hid (R2.out.keeps (Keeps.of_below hb3))
      have BX3 := Lib.hid (BX2.out.next hb3)
      have RX3 := Lib.hid (RX2.out.fresh hb3)
      have HC1 := sameInts_any _ _ _ _ v3 R3.out.row.1 (RowI.own hrow R3.out.2.1).1 (by have := T1.out; have := HNA.out; omega)
      rw [show decide (twoL (ids E) = twoL (ids E)) = true by simp, T1.out, HNA.out] at HC1
      obtain ⟨ar, cr, rfl⟩ := own_form hrow
      rw [T1.out, HNA.out] at HC1 ⊢
      have HC1 := Lib.hid HC1
      clear hrow hb3 S2 R2 BX2 RX2 HA y0
      have hmark := True.intro
      go_wp2_with fail
      refine HC1.out.mono ?_
      rintro e v4 ⟨rfl, d, rfl⟩
      have bd := below_drewN v3.heap.size v3 d
      have S4 := Lib.hid (st_next S3.out bd)
      have R4 := Lib.hid (R3.out.keeps (Keeps.of_below bd))
      have BX4 := Lib.hid (BX3.out.next bd)
      have RX4 := Lib.hid (RX3.out.fresh bd)
      clear bd HC1 S3 R3 BX3 RX3
      generalize v3.drewN d = v4 at *
      have HXA : Hid (∀ w', Below v4.heap.size v4 w' → 0 < nA → ∃ g, wa = some ⟨g, 0, none⟩ ∧ ∀ j, j < nA → w'.cell? ⟨g, j, none⟩ = some (.int .i64 (2 * (ids E).getD j 0))) := Lib.hid fun w' hb h0 => by
        have h := R4.out.1
        rw [T1.out, HNA.out] at h
        obtain ⟨g, e, hc⟩ := row_cells2 h (by rw [T1.out, HNA.out]) w' hb h0
        exact ⟨g, e, fun j hj => by rw [hc j hj, twoL_at (by rw [HNA.out]; exact hj)]⟩
      have HEl : Hid (∀ q, q < nA → ∃ (j : Nat) (x : Ob) (b off c : Nat) (a3 : Option Addr) (n3 c3 : Nat) (a4 : Option Addr) (n4 c4 : Nat), (ids E).getD q 0 = (j : Int) + 1 ∧ j < nE ∧ objF E (2 * ((j : Int) + 1)) = x ∧ errF E (2 * ((j : Int) + 1)) = 0 ∧ Value.slice xa nE xc = .slice (some ⟨b, off, none⟩) nE c ∧
          RowC v4 b (off + j * 4) x.c x.k (.slice a3 n3 c3) (.slice a4 n4 c4) ∧ ObjAt v4 (.agg #[.int .i64 x.c, .int .i64 x.k, .slice a3 n3 c3, .slice a4 n4 c4]) x ∧ sizeO x = n3 + n4 ∧ Short x) := Lib.hid fun q hq => by
        have h := elem_at (k := q) RX4.out ME.out (by have := HE.out; omega) (by rw [HNA.out]; exact hq)
        rw [HNE.out] at h
        exact h
      have HE3 : Hid (nE ≤ 150) := Lib.hid (by rw [← HNE.out]; exact HE.out)
      go_wp2_with fail
      go_loopw [10] (fun k wr => ∃ i : Nat, i ≤ nA ∧ k = .int .i64 i ∧ Below v4.heap.size v4 wr) (fun k _ => nA - (RowKit.intOf k).toNat)
      case atStart => exact ⟨0, Nat.zero_le _, rfl, Below.refl _ _⟩
      case round =>
        obtain ⟨q, hq, rfl, hb⟩ := hrel
        have B5 := Lib.hid hb
        clear hb
        by_cases hlt : q < nA
        · obtain ⟨g, rfl, hx⟩ := HXA.out _ B5.out (by omega)
          obtain ⟨j, x, b, off, c9, a3, n3, c3, a4, n4, c4, hid, hj, hxo, hee, hv, hc, ho, hsz, hsh⟩ := HEl.out q hlt
          injection hv with e1 _ e3
          subst e1 e3
          have hj150 := HE3.out
          have HCe : Hid (∀ w', Below v4.heap.size v4 w' → w'.cell? ⟨g, q, none⟩ = some (.int .i64 (2 * ((j : Int) + 1)))) := Lib.hid fun w' hb => by
            obtain ⟨g', e, hc'⟩ := HXA.out w' hb (by omega)
            injection e with e
            injection e with e _ _
            subst e
            rw [hc' q hlt, hid]
          have xi := HCe.out _ B5.out
          have HO0 := got_plain (S4.out.1.fresh B5.out) (2 * ((j : Int) + 1)) ⟨by omega, by omega⟩ hee
          rw [hxo] at HO0
          have HO := Lib.hid HO0
          have HCla : Hid (∀ w', Below v4.heap.size v4 w' → Calls Try.prog 23 #[ifM W.heap.size, .int .i64 (2 * ((j : Int) + 1))] w' fun e w'' => e = .returned (.tuple #[.int .i64 x.c, .int .i64 0]) ∧ Below w'.heap.size w' w'') := Lib.hid fun w' hb => by
            have := class_any (S4.out.1.fresh hb) (2 * ((j : Int) + 1)) ⟨by omega, by omega⟩ hee
            rw [hxo] at this
            exact this
          have HSiz : Hid (∀ w', Below v4.heap.size v4 w' → Calls Try.prog 24 #[ifM W.heap.size, .int .i64 (2 * ((j : Int) + 1))] w' fun e w'' => e = .returned (.tuple #[.int .i64 ((n3 : Int) + n4), .int .i64 0]) ∧ Below w'.heap.size w' w'') := Lib.hid fun w' hb => by
            have := sizeM_any (S4.out.1.fresh hb) (2 * ((j : Int) + 1)) ⟨by omega, by omega⟩ hee
            rw [hxo, hsz, Int.natCast_add] at this
            exact this
          have RC := Lib.hid hc
          have OW := Lib.hid ho
          have HSH := Lib.hid hsh
          have d1 : decide ((q : Int) < nA) = true := by simpa using hlt
          have d2 : decide (q < nA) = true := by simpa using hlt
          have hw2 : IntKind.i64.wrap ((q : Int) + 1) = (q : Int) + 1 := by rw [IntKind.wrap_i64]; omega
          have hn34 : (n3 : Int) + n4 ≤ 2000000 := by
            have h1 : n3 + n4 = sizeO x := hsz.symm
            have h2 := hsh.1
            have h3 := hsh.2
            have h4 : sizeO x ≤ 1000000 := by unfold sizeO; split; exact h2; split; exact h3; omega
            omega
          clear hx hid hxo hee hc ho hsz hsh HO0
          go_upto_region 22 with (go_at_call 22; refine HO.out.mono ?_; rintro e w3 ⟨a1, n1, c1, a2, n2, c2, rfl, b3, OB⟩)
          have X4 := Lib.hid (box_new w3 (.int .i64 x.c) (.int .i64 x.k) (.slice a1 n1 c1) (.slice a2 n2 c2))
          have B6 : Hid (Below v4.heap.size v4 (w3.alloc (.cells #[.int .i64 x.c, .int .i64 x.k, .slice a1 n1 c1, .slice a2 n2 c2] 33))) := Lib.hid (B5.out.trans ((b3.out.trans ((below_new w3 _).mono b3.out.size)).mono B5.out.size))
          clear b3 HO xi
          generalize w3.alloc (.cells #[.int .i64 x.c, .int .i64 x.k, .slice a1 n1 c1, .slice a2 n2 c2] 33) = w4 at *
          generalize w3.heap.size = pB at *
          have xi := HCe.out _ B6.out
          go_upto_region 24 with (first | (go_at_call 23; refine (HCla.out _ B6.out).mono ?_; rintro e w5 ⟨rfl, hb5⟩; have D5 := Lib.hid hb5; have B7 := Lib.hid (B6.out.trans (hb5.mono B6.out.size)); have x5 := HCe.out _ B7.out; clear hb5) | (go_at_call 24; refine (HSiz.out _ B7.out).mono ?_; rintro e w6 ⟨rfl, hb6⟩; have D6 := Lib.hid (D5.out.trans (hb6.mono D5.out.size)); have B8 := Lib.hid (B7.out.trans (hb6.mono B7.out.size)); clear hb6))
          have hdv : (2 * ((j : Int) + 1)).tdiv 2 = (j : Int) + 1 := by rw [Int.mul_comm]; exact Int.mul_tdiv_cancel _ (by decide)
          have hw7 : IntKind.i64.wrap ((j : Int) + 1) = (j : Int) + 1 := by rw [IntKind.wrap_i64]; omega
          have hw8 : IntKind.i64.wrap ((j : Int) + 1 - 1) = (j : Int) := by rw [IntKind.wrap_i64]; omega
          have hw11 : IntKind.i64.wrap (j : Int) = (j : Int) := by rw [IntKind.wrap_i64]; omega
          have hj0 : (0 : Int) ≤ j := by omega
          have hjl : (j : Int) < nE := by omega
          have H7 : Hid (∀ w', Below w6.heap.size w6 w' → w'.cell? ⟨px, 0, none⟩ = some (.slice (some ⟨b, off, none⟩) nE xc) ∧ w'.cell? ⟨g, q, none⟩ = some (.int .i64 (2 * ((j : Int) + 1))) ∧ w'.cell? ⟨b, off + j * 4, none⟩ = some (.int .i64 x.c) ∧ w'.cell? ⟨b, off + j * 4 + 1, none⟩ = some (.int .i64 x.k) ∧ w'.cell? ⟨b, off + j * 4 + 2, none⟩ = some (.slice a3 n3 c3) ∧ w'.cell? ⟨b, off + j * 4 + 3, none⟩ = some (.slice a4 n4 c4) ∧ Hid (Below w6.heap.size w6 w')) := Lib.hid fun w' hb => by
            have b9 := B8.out.trans (hb.mono B8.out.size)
            obtain ⟨f0, f1, f2, f3⟩ := RC.out.next b9
            have h9 := BX4.out.next b9
            rw [HNE.out] at h9
            exact ⟨h9.1, HCe.out _ b9, f0, f1, f2, f3, hb⟩
          have S7 : w6.drew.cell? ⟨px, 0, none⟩ = some (.slice (some ⟨b, off, none⟩) nE xc) ∧ w6.drew.cell? ⟨g, q, none⟩ = some (.int .i64 (2 * ((j : Int) + 1))) ∧ w6.drew.cell? ⟨b, off + j * 4, none⟩ = some (.int .i64 x.c) ∧ w6.drew.cell? ⟨b, off + j * 4 + 1, none⟩ = some (.int .i64 x.k) ∧ w6.drew.cell? ⟨b, off + j * 4 + 2, none⟩ = some (.slice a3 n3 c3) ∧ w6.drew.cell? ⟨b, off + j * 4 + 3, none⟩ = some (.slice a4 n4 c4) ∧ Hid (Below w6.heap.size w6 w6.drew) := H7.out _ (below_drewN _ _ 1)
          clear xi x5 RC
          go_cut [17] from 67 to 144 (fun s17 wx => ∃ p17, s17 = .pointer (some ⟨p17, 0, none⟩) ∧ Hid (Box p17 (.int .i64 x.c) (.int .i64 x.k) (.slice a3 n3 c3) (.slice a4 n4 c4) wx) ∧ Hid (Below w6.heap.size w6 wx))
          case first =>
            have HKO7 : Hid (∀ wa : World, Only (w6.heap.size ≤ ·) w6.drew wa → wa.cell? ⟨px, 0, none⟩ = some (.slice (some ⟨b, off, none⟩) nE xc) ∧ wa.cell? ⟨g, q, none⟩ = some (.int .i64 (2 * ((j : Int) + 1))) ∧ wa.cell? ⟨b, off + j * 4, none⟩ = some (.int .i64 x.c) ∧ wa.cell? ⟨b, off + j * 4 + 1, none⟩ = some (.int .i64 x.k) ∧ wa.cell? ⟨b, off + j * 4 + 2, none⟩ = some (.slice a3 n3 c3) ∧ wa.cell? ⟨b, off + j * 4 + 3, none⟩ = some (.slice a4 n4 c4) ∧ Hid (Below w6.heap.size w6 wa)) := Lib.hid fun wa o => H7.out wa ((below_drewN _ _ 1).trans (Only.below (B := w6.heap.size) o (fun i hi e => by omega) (Nat.le_refl _)))
            obtain ⟨s0, s1, s2, s3, s4, s5, _⟩ := S7
            have S7 : w6.drew.cell? ⟨px, 0, none⟩ = some (.slice (some ⟨b, off, none⟩) nE xc) ∧ w6.drew.cell? ⟨g, q, none⟩ = some (.int .i64 (2 * ((j : Int) + 1))) ∧ w6.drew.cell? ⟨b, off + j * 4, none⟩ = some (.int .i64 x.c) ∧ w6.drew.cell? ⟨b, off + j * 4 + 1, none⟩ = some (.int .i64 x.k) ∧ w6.drew.cell? ⟨b, off + j * 4 + 2, none⟩ = some (.slice a3 n3 c3) ∧ w6.drew.cell? ⟨b, off + j * 4 + 3, none⟩ = some (.slice a4 n4 c4) ∧ Hid (Below w6.heap.size w6 w6.drew) := HKO7.out _ (Only.refl _ _)
            have HKO8 : Hid (∀ wa : World, Only (w6.heap.size ≤ ·) (w6.alloc (.cells #[.int .i64 0, .int .i64 0, .slice none 0 0, .slice none 0 0] 33)).drew wa → wa.cell? ⟨px, 0, none⟩ = some (.slice (some ⟨b, off, none⟩) nE xc) ∧ wa.cell? ⟨g, q, none⟩ = some (.int .i64 (2 * ((j : Int) + 1))) ∧ wa.cell? ⟨b, off + j * 4, none⟩ = some (.int .i64 x.c) ∧ wa.cell? ⟨b, off + j * 4 + 1, none⟩ = some (.int .i64 x.k) ∧ wa.cell? ⟨b, off + j * 4 + 2, none⟩ = some (.slice a3 n3 c3) ∧ wa.cell? ⟨b, off + j * 4 + 3, none⟩ = some (.slice a4 n4 c4) ∧ Hid (Below w6.heap.size w6 wa)) := Lib.hid fun wa o => H7.out wa (((below_new w6 _).trans (below_drewN w6.heap.size _ 1)).trans (Only.below (B := w6.heap.size) o (fun i hi e => by omega) (((below_new w6 _).trans (below_drewN w6.heap.size _ 1)).size)))
            have S8 : (w6.alloc (.cells #[.int .i64 0, .int .i64 0, .slice none 0 0, .slice none 0 0] 33)).drew.cell? ⟨px, 0, none⟩ = some (.slice (some ⟨b, off, none⟩) nE xc) ∧ (w6.alloc (.cells #[.int .i64 0, .int .i64 0, .slice none 0 0, .slice none 0 0] 33)).drew.cell? ⟨g, q, none⟩ = some (.int .i64 (2 * ((j : Int) + 1))) ∧ (w6.alloc (.cells #[.int .i64 0, .int .i64 0, .slice none 0 0, .slice none 0 0] 33)).drew.cell? ⟨b, off + j * 4, none⟩ = some (.int .i64 x.c) ∧ (w6.alloc (.cells #[.int .i64 0, .int .i64 0, .slice none 0 0, .slice none 0 0] 33)).drew.cell? ⟨b, off + j * 4 + 1, none⟩ = some (.int .i64 x.k) ∧ (w6.alloc (.cells #[.int .i64 0, .int .i64 0, .slice none 0 0, .slice none 0 0] 33)).drew.cell? ⟨b, off + j * 4 + 2, none⟩ = some (.slice a3 n3 c3) ∧ (w6.alloc (.cells #[.int .i64 0, .int .i64 0, .slice none 0 0, .slice none 0 0] 33)).drew.cell? ⟨b, off + j * 4 + 3, none⟩ = some (.slice a4 n4 c4) ∧ Hid (Below w6.heap.size w6 (w6.alloc (.cells #[.int .i64 0, .int .i64 0, .slice none 0 0, .slice none 0 0] 33)).drew) := HKO8.out _ (Only.refl _ _)
            go_region_held3 (fun w' => w'.cell? ⟨px, 0, none⟩ = some (.slice (some ⟨b, off, none⟩) nE xc) ∧ w'.cell? ⟨g, q, none⟩ = some (.int .i64 (2 * ((j : Int) + 1))) ∧ w'.cell? ⟨b, off + j * 4, none⟩ = some (.int .i64 x.c) ∧ w'.cell? ⟨b, off + j * 4 + 1, none⟩ = some (.int .i64 x.k) ∧ w'.cell? ⟨b, off + j * 4 + 2, none⟩ = some (.slice a3 n3 c3) ∧ w'.cell? ⟨b, off + j * 4 + 3, none⟩ = some (.slice a4 n4 c4) ∧ Hid (Below w6.heap.size w6 w')) (first | (with_reducible assumption) | (with_reducible exact S7) | (with_reducible exact S8) | (exact H7.out _ ((below_new w6 _).trans (below_drewN w6.heap.size _ 1)))) (fail)
            all_goals (go_wp2_with fail; go_meet)
            all_goals exact ⟨_, rfl, Lib.hid ((box_new w6 _ _ _ _).next (below_drewN _ _ 1)), Lib.hid ((below_new w6 _).trans (below_drewN w6.heap.size _ 1))⟩
          case rest =>
            obtain ⟨p17, rfl, X17, B17⟩ := hcut
            have BA := Lib.hid (B8.out.trans (B17.out.mono B8.out.size))
            have DA := Lib.hid (D6.out.trans (B17.out.mono D6.out.size))
            have Y4 := Lib.hid (X4.out.next DA.out)
            have HSm := Lib.hid (same_got (OB.out.kept DA.out) (OW.out.kept BA.out) HSH.out)
            have HX : Hid (∀ w', Below wc.heap.size wc w' → Box p17 (.int .i64 x.c) (.int .i64 x.k) (.slice a3 n3 c3) (.slice a4 n4 c4) w') := Lib.hid fun w' hb => X17.out.next hb
            clear HCe HCla HSiz H7 S7 HEl HXA hdv hw7 hw8 hw11 hj0 hjl
            obtain ⟨⟨p0, p1, p2, p3⟩, _, _⟩ := Y4.out
            obtain ⟨⟨r0, r1, r2, r3⟩, _, _⟩ := X17.out
            clear Y4 X17
            generalize x.c = oc at *
            generalize x.k = ok at *
            have e1 : (oc != oc) = false := by simp
            have e5 : (((n3 : Int) + n4) != ((n3 : Int) + n4)) = false := by simp
            have hw5 : IntKind.i64.wrap ((n3 : Int) + n4) = (n3 : Int) + n4 := by rw [IntKind.wrap_i64]; omega
            go_wp2_with (go_at_call 25; refine HSm.out.mono ?_; rintro e w8 ⟨rfl, hb8⟩; have E8 := Lib.hid hb8; obtain ⟨⟨t0, t1, t2, t3⟩, _, _⟩ := HX.out _ hb8; clear hb8)
            exact ⟨⟨q + 1, by omega, by go_num, BA.out.trans (E8.out.mono BA.out.size)⟩, by simp [RowKit.intOf]; omega⟩
        · have hq' : q = nA := by omega
          have hd2 : decide ((q : Int) < nA) = false := by simp [hq']
          have hd3 : decide (q < nA) = false := by simp [hq']
          clear HXA HEl hlt hq' hq hlE
          have hHH : Hid (Below W.heap.size W wr) := Lib.hid (HW.out.trans ((S4.out.2.2.trans (Keeps.of_below B5.out)).below (fun g hg => hg) HW.out.size))
          clear S4 R4 BX4 RX4
          go_wp2_with (go_at_call 13; refine (HK.out _).mono ?_; rintro e w9 ⟨rfl, hb9⟩; have B9 := Lib.hid hb9)
          go_ret
          exact ⟨rfl, hHH.out.trans (B9.out.mono hHH.out.size)⟩
end Go.Proofs.Ytmaeoefimkppoaa.Fl
