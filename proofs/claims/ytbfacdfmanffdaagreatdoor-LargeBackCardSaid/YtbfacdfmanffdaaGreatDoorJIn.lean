/- Package large's Int: the number whose bytes they are, if an int holds it. -/
import Derived.Test.YtbfacdfmanffdaaGreatDoorJBk
namespace Go.Proofs.YtbfacdfmanffdaaGreatDoor
set_option maxRecDepth 1000000
open Go.ChangeShapes Go.WideShapes Go.ChangeAt Go.RowKit Go.Shelf
attribute [local go_sem] Oper.semAt_some

theorem or8 {x d : Int} (h0 : 0 ≤ x) (h1 : x ≤ 36028797018963967) (d0 : 0 ≤ d) (d1 : d ≤ 255) : bits .or .i64 (x * 256) d = x * 256 + d := by
  obtain ⟨X, rfl⟩ := Int.eq_ofNat_of_zero_le h0
  obtain ⟨D, rfl⟩ := Int.eq_ofNat_of_zero_le d0
  show IntKind.i64.wrap ((BitVec.ofInt 64 ((X : Int) * 256) ||| BitVec.ofInt 64 (D : Int)).toNat : Int) = _
  have e : ((X : Int) * 256) = ((X * 256 : Nat) : Int) := by omega
  have j : X * 256 ||| D = X * 256 + D := nat_join 8 (X * 256) D (by omega) (by omega)
  rw [e, BitVec.toNat_or, ofInt_u64 _ (by omega), ofInt_u64 _ (by omega), j, IntKind.wrap_i64]
  omega
/-- Between two rounds: the number so far. -/
structure IntI (w : World) (z : Nat) (a : Option Addr) (c : Nat) (A : List Int) (L : Nat) (k : Nat) (W : World) : Prop where
  below : Below z w W
  r1 : Boxed W z 3 (.int .i64 0)
  r2 : Boxed W (z + 1) 4 (.bool false)
  num : Boxed W (z + 1 + 1) 3 (.int .i64 (val (A.drop (L - k))))
  rd : BackRd (z + 1 + 1 + 1) a c A L k W
  small : val (A.drop (L - k)) ≤ 9223372036854775807
theorem IntI.own {w : World} {z : Nat} {a : Option Addr} {c : Nat} {A : List Int} {L B : Nat} (hz : z = w.heap.size) (hB : z ≤ B) : OwnFrom B (IntI w z a c A L) := fun _ _ _ _ h hg hr =>
  have hc := fun r e => (hr r e).2
  ⟨below_grown h.below (Nat.le_of_eq hz) hg fun r e => Nat.le_trans hB (hr r e).1, box_grown h.r1 hg hc, box_grown h.r2 hg hc, box_grown h.num hg hc, h.rd.grown hg hc, h.small⟩
theorem IntI.next {w : World} {z : Nat} {a : Option Addr} {c : Nat} {A : List Int} {L k : Nat} {W W' : World} (h : IntI w z a c A L k W) (hz : z = w.heap.size) (hb : Below W.heap.size W W') : IntI w z a c A L k W' :=
  ⟨h.below.trans (hb.mono (by rw [hz]; exact h.below.size)), box_next h.r1 hb h.r1.lt, box_next h.r2 hb h.r2.lt, box_next h.num hb h.num.lt, h.rd.next hb, h.small⟩
/-- A round has found that no int holds it. -/
structure IntX (w : World) (z : Nat) (A : List Int) (c : Code) (W : World) : Prop where
  ret : c = .ret
  below : Below z w W
  r1 : Boxed W z 3 (.int .i64 0)
  r2 : Boxed W (z + 1) 4 (.bool false)
  big : ¬ val A ≤ 9223372036854775807
theorem IntX.own {w : World} {z : Nat} {A : List Int} {B : Nat} (hz : z = w.heap.size) (hB : z ≤ B) : OwnFrom B (IntX w z A) := fun _ _ _ _ h hg hr =>
  have hc := fun r e => (hr r e).2
  ⟨h.ret, below_grown h.below (Nat.le_of_eq hz) hg fun r e => Nat.le_trans hB (hr r e).1, box_grown h.r1 hg hc, box_grown h.r2 hg hc, h.big⟩
set_option maxHeartbeats 4000000 in
theorem int_in {N : Nat → Prop} (v : Value) (A : List Int) (w : World) (h1 : Bts N w v A) (b1 : Bytes A) (l1 : A.length ≤ 1000000000000) :
    CallsIn Fence.wide 6 Tryz.prog 9 #[v] w (ValB (.tuple #[.int .i64 (intV A), .bool (intB A)]) w) := by
  have hn1 : 1 ≤ 6 - 1 - 1 := by decide
  have fr : Fence.wide.fn 16 := trivial
  have fb : Fence.wide.fn 22 := trivial
  have C1 := Lib.hid fun w' (h : Below w.heap.size w w') => right_is v A w' (h1.next h) l1
  have HV1 : Hid (Bts (· < w.heap.size) w v A) := Lib.hid (Bts.kind h1 fun b h _ => h)
  have HB1 := Lib.hid b1
  obtain ⟨L, hL⟩ : ∃ k, A.length = k := ⟨_, rfl⟩
  have HL := Lib.hid hL
  obtain ⟨a, c, rfl, hc⟩ := Bts.form h1
  rw [hL] at hc HV1 C1 l1 ⊢
  unfold ValB
  cases hr : rightB A with
  | true =>
    rw [hr] at C1
    have HRt := Lib.hid hr
    clear h1 b1 hL hr
    have K1 : Hid (Below w.heap.size w ((w.alloc (.cells #[.int .i64 0] 3)).alloc (.cells #[.bool false] 4))) := Lib.hid (((Below.refl _ w).alloc (Nat.le_refl _) _).alloc (by simp) _)
    refine callsIn_of_wp_marks Tryz.func9 rfl trivial ?_ rfl
    simp only [Tryz.ntmps9, List.size_toArray, List.length_cons, List.length_nil, Nat.reduceAdd, Nat.reduceSub, Array.replicate_succ, Array.replicate_zero, List.push_toArray, List.append_toArray, List.nil_append, List.cons_append]
    gi_wp2_with (first | (gi_at_call 16; refine (callsIn_wide.2 (C1.out _ K1.out)).mono ?_; rintro e w2 ⟨rfl, rfl⟩) | (gi_at_call 22; refine (callsIn_wide.2 (back_any _ _ _ _)).mono ?_; rintro e w2 ⟨rfl, rfl⟩))
    obtain ⟨z, hz⟩ : ∃ z, w.heap.size = z := ⟨_, rfl⟩
    obtain ⟨W0, hW0⟩ : ∃ W0, ((((w.alloc (.cells #[.int .i64 0] 3)).alloc (.cells #[.bool false] 4)).alloc (.cells #[.int .i64 0] 3)).alloc (.cells #[.slice a L c] 22)) = W0 := ⟨_, rfl⟩
    have HI0 : Hid (IntI w z a c A L 0 W0) := Lib.hid (by
      have x1 := Boxed.new w 3 (.int .i64 0)
      have x2 := Boxed.new (w.alloc (.cells #[.int .i64 0] 3)) 4 (.bool false)
      have x3 := Boxed.new ((w.alloc (.cells #[.int .i64 0] 3)).alloc (.cells #[.bool false] 4)) 3 (.int .i64 0)
      have x4 := Boxed.new (((w.alloc (.cells #[.int .i64 0] 3)).alloc (.cells #[.bool false] 4)).alloc (.cells #[.int .i64 0] 3)) 22 (.slice a L c)
      simp only [World.size_alloc, hz] at x1 x2 x3 x4
      have hb : Below w.heap.size w W0 := by rw [← hW0]; exact ((((Below.refl _ w).alloc (Nat.le_refl _) _).alloc (by simp) _).alloc (by simp; omega) _).alloc (by simp; omega) _
      have e0 : A.drop (L - 0) = [] := List.drop_of_length_le (by rw [HL.out]; omega)
      rw [hz] at hb
      refine ⟨hb, ?_, ?_, ?_, ⟨?_, fun i hi => ?_⟩, ?_⟩
      · rw [← hW0]; exact ((x1.alloc _).alloc _).alloc _
      · rw [← hW0]; exact (x2.alloc _).alloc _
      · rw [← hW0, e0]; exact x3.alloc _
      · rw [← hW0]; exact x4.cell
      · obtain ⟨b, o, c', he, _, hlt, _, h⟩ := bts_cells HV1.out (by rw [HL.out]; omega)
        injection he with e _ _
        exact ⟨b, o, e, (hb.cell (p := ⟨b, o + i, none⟩) (by rw [← hz]; exact hlt)).trans (h i (by rw [HL.out]; omega))⟩
      · rw [e0]; decide)
    rw [hW0]
    have hs0 : W0.heap.size = z + 1 + 1 + 1 + 1 := by rw [← hW0]; simp [hz]
    have HZ := Lib.hid hz.symm
    rw [hz]
    have HBi : Hid (intB A = decide (val A ≤ 9223372036854775807)) := Lib.hid (by unfold intB; rw [HRt.out, Bool.true_and])
    clear hW0 hz K1 C1 HV1 fr fb
    refine rangeFunc_x rfl (by decide) (gf := 41) (lb := #[.pointer (some ⟨z + 1 + 1 + 1, 0, none⟩)]) rfl trivial eg_back (back_gives (6 - 1) (by decide) _ a c A L l1 hc) abNew_kept (fun _ _ _ _ _ _ => trivial) (fun _ _ _ _ _ _ => trivial) (fun _ => rfl)
      (IntI w z a c A L) (IntX w z A) (IntI.own HZ.out (by omega)) (IntX.own HZ.out (by omega)) (fun k A h => h.rd) (fun k A B h hab => h.next HZ.out hab) HI0.out ?round ?done ?stop
    case round =>
      rintro l k ⟨i, d⟩ W hx
      obtain ⟨hk, he⟩ := backL_is hx
      injection he with he1 he2
      rw [← he1] at he2
      have hik : L - k = i + 1 := by omega
      have hik2 : L - (k + 1) = i := by omega
      have hd := dgt_rng HB1.out i
      rw [← he2] at hd
      obtain ⟨hd0, hd1⟩ := hd
      have HK := Lib.hid hik
      have HK2 := Lib.hid hik2
      have HD := Lib.hid he2
      have HX := Lib.hid hk
      clear hx he1 he2 hik hik2 hk HI0
      simp only [encB]
      gi_wp2
      refine Asg.mk ?_
      intro W1 hI hsz
      have HI := Lib.hid hI
      obtain ⟨x, hxx⟩ : ∃ x, val (A.drop (L - k)) = x := ⟨_, rfl⟩
      have hn := hI.num.cell
      have hn2 := hI.num.frozen
      have hx1 := hI.small
      have hx0 := val_nonneg (drop_bytes HB1.out (L - k))
      have c1 := hI.r1.cell
      have c2 := hI.r2.cell
      have f1 := hI.r1.frozen
      have f2 := hI.r2.frozen
      rw [hxx] at hn hx1 hx0
      have HXX := Lib.hid hxx
      clear hI hxx
      by_cases hb : x ≤ 36028797018963967
      · have d1 : decide ((36028797018963967 : Int) < x) = false := by simp; omega
        have hor := or8 hx0 hb hd0 hd1
        obtain ⟨y, hy⟩ : ∃ y, x * 256 + d = y := ⟨_, rfl⟩
        rw [hy] at hor
        have HN : Hid (IntI w z a c A L (k + 1) (W1.setCell ⟨z + 1 + 1, 0, none⟩ (.int .i64 y))) := Lib.hid (by
          have h := HI.out
          have hv : val (A.drop (L - (k + 1))) = y := by
            rw [HK2.out, val_drop (by rw [HL.out]; have := HX.out; have := HK.out; omega), ← HD.out, ← HK.out, HXX.out]
            omega
          refine ⟨h.below.setCell (p := ⟨z + 1 + 1, 0, none⟩) (by show z ≤ z + 1 + 1; omega) _, h.r1.other (by omega) _, h.r2.other (by omega) _, ?_, ?_, ?_⟩
          · rw [hv]; exact h.num.set _
          · exact (h.rd.set_ h.num).less
          · rw [hv]; omega)
        clear HI HK HK2 HD HXX HX c1 c2 f1 f2
        gi_wp2
        exact ⟨(KeepsOthers.setCell _ _ _).from _, trivial, HN.out⟩
      · have d1 : decide ((36028797018963967 : Int) < x) = true := by simp; omega
        have HN : Hid (IntX w z A .ret ((W1.setCell ⟨z, 0, none⟩ (.int .i64 0)).setCell ⟨z + 1, 0, none⟩ (.bool false))) := Lib.hid (by
          have h := HI.out
          refine ⟨rfl, (h.below.setCell (p := ⟨z, 0, none⟩) (Nat.le_refl _) _).setCell (p := ⟨z + 1, 0, none⟩) (by show z ≤ z + 1; omega) _, (h.r1.set _).other (by omega) _, (h.r2.other (by omega) _).set _, ?_⟩
          refine val_big HB1.out (j := i) (by rw [HL.out]; have := HX.out; have := HK.out; omega) ?_
          rw [← HK.out, HXX.out]
          omega)
        clear HI HK HK2 HD HXX HX
        gi_wp2
        exact ⟨((KeepsOthers.setCell _ _ _).trans (KeepsOthers.setCell _ _ _)).from _, trivial, HN.out⟩
    case done =>
      intro D W hD hI hK
      rw [backL_len] at hI
      have HI := Lib.hid hI
      have hn := hI.num.cell
      have c1 := hI.r1.cell
      have c2 := hI.r2.cell
      have f1 := hI.r1.frozen
      have f2 := hI.r2.frozen
      have hsm := hI.small
      rw [Nat.sub_self, List.drop_zero] at hn hsm
      have hEq : intB A = true ∧ intV A = val A := by
        have e : intB A = true := by rw [HBi.out]; simpa using hsm
        exact ⟨e, by unfold intV; rw [if_pos e]⟩
      obtain ⟨x, hx⟩ : ∃ x, val A = x := ⟨_, rfl⟩
      rw [hx] at hn hsm hEq
      have HEq := Lib.hid hEq
      clear hI hEq HI0 hx
      gi_wp2
      have hk1 := ((KeepsOthers.setCell W ⟨z, 0, none⟩ (.int .i64 x)).trans (KeepsOthers.setCell _ ⟨z + 1, 0, none⟩ (.bool true))).same D _ hK rfl
      refine ⟨by simp, .inl ⟨_, _, rfl, run_takeDeferred hk1, ?_⟩⟩
      have y1 := cell_end hk1 rfl (.deferred none) ((HI.out.r1.set (.int .i64 x)).other (B' := z + 1) (by omega) (.bool true)).cell
      have y2 := cell_end hk1 rfl (.deferred none) ((HI.out.r2.other (B' := z) (by omega) (.int .i64 x)).set (.bool true)).cell
      refine ⟨.tuple #[.int .i64 x, .bool true], ?_, by rw [HEq.out.1, HEq.out.2], (below_end D _ ((HI.out.below.setCell (p := ⟨z, 0, none⟩) (Nat.le_refl _) _).setCell (p := ⟨z + 1, 0, none⟩) (by show z ≤ z + 1; omega) _) (by omega) hk1 _).mono (Nat.le_of_eq HZ.out.symm)⟩
      simp [results, Tryz.f9, go_sem, y1, y2]
    case stop =>
      rintro D c W hD hX hK
      obtain ⟨rfl, hb, c1, c2, hbig⟩ := hX
      have hEq : intB A = false ∧ intV A = 0 := by
        have e : intB A = false := by rw [HBi.out]; simpa using hbig
        exact ⟨e, by unfold intV; rw [e]; rfl⟩
      have HEq := Lib.hid hEq
      have y1 := cell_end hK rfl (.deferred none) c1.cell
      have y2 := cell_end hK rfl (.deferred none) c2.cell
      clear hEq HI0
      gi_wp2
      refine ⟨by simp, .inl ⟨_, _, rfl, run_takeDeferred hK, ?_⟩⟩
      refine ⟨.tuple #[.int .i64 0, .bool false], ?_, by rw [HEq.out.1, HEq.out.2], (below_end D _ hb (by omega) hK _).mono (Nat.le_of_eq HZ.out.symm)⟩
      simp [results, Tryz.f9, go_sem, y1, y2]
  | false =>
    rw [hr] at C1
    have e1 : intB A = false := by unfold intB; rw [hr]; rfl
    have e2 : intV A = 0 := by unfold intV; rw [e1]; rfl
    rw [e1, e2]
    have c1 : ((w.alloc (.cells #[.int .i64 0] 3)).alloc (.cells #[.bool false] 4)).cell? ⟨w.heap.size, 0, none⟩ = some (.int .i64 0) := ((Boxed.new w 3 (.int .i64 0)).alloc _).cell
    have c2 : ((w.alloc (.cells #[.int .i64 0] 3)).alloc (.cells #[.bool false] 4)).cell? ⟨w.heap.size + 1, 0, none⟩ = some (.bool false) := by
      have := (Boxed.new (w.alloc (.cells #[.int .i64 0] 3)) 4 (.bool false)).cell
      rwa [World.size_alloc] at this
    have K1 : Hid (Below w.heap.size w ((w.alloc (.cells #[.int .i64 0] 3)).alloc (.cells #[.bool false] 4))) := Lib.hid (((Below.refl _ w).alloc (Nat.le_refl _) _).alloc (by simp) _)
    clear h1 b1 hL hr e1 e2 HV1 HB1 HL
    refine callsIn_wide.2 ?_
    go_enter Tryz.func9, Tryz.ntmps9
    go_wp2_with (go_at_call 16; refine (C1.out _ K1.out).mono ?_; rintro e w2 ⟨rfl, rfl⟩)
    refine bodyPost_ret (v := .tuple #[.int .i64 0, .bool false]) ?_ rfl ⟨rfl, K1.out⟩
    simp [results, Tryz.f9, go_sem, c1, c2]
theorem int_code {N : Nat → Prop} (v : Value) (A : List Int) (w : World) (h1 : Bts N w v A) (b1 : Bytes A) (l1 : A.length ≤ 1000000000000) : Calls Tryz.prog 9 #[v] w (ValB (.tuple #[.int .i64 (intV A), .bool (intB A)]) w) := callsIn_wide.1 (int_in v A w h1 b1 l1)
end Go.Proofs.YtbfacdfmanffdaaGreatDoor
