/- Package large's Read. -/
import Derived.Test.YtbfacdfmanffdaaGreatDoorJDe
import Derived.Test.YtbfacdfmanffdaaGreatDoorJMu
namespace Go.Proofs.YtbfacdfmanffdaaGreatDoor
set_option maxRecDepth 1000000
open Go.ChangeShapes Go.WideShapes Go.ChangeAt Go.RowKit Go.Shelf
attribute [local go_sem] Oper.semAt_some

theorem sumV_first (x : Int) : ∀ m, sumV (fun j => if j = 0 then x else 0) (m + 1) = x
  | 0 => by simp [sumV]
  | m + 1 => by
    show sumV (fun j => if j = 0 then x else 0) (m + 1) + (if m + 1 = 0 then x else 0) * 256 ^ (m + 1) = x
    rw [sumV_first x m, if_neg (by omega)]; simp
/-- Between two parts: the number so far. -/
structure ReI (w : World) (z y : Nat) (cs xs : List Int) (k : Nat) (W : World) : Prop where
  below : Below z w W
  r1 : Boxed W z 22 (.slice none 0 0)
  r2 : Boxed W (z + 1) 24 (.int .i64 0)
  num : ∃ x m c, Boxed W y 22 (.slice x m c) ∧ Bts (y + 1 < ·) W (.slice x m c) (dig (accV 0 (xs.take k)).toNat) ∧ m ≤ 400
  rd : Boxed W (y + 1) 9 (.string (strOfNums cs))
theorem ReI.own {w : World} {z y : Nat} {cs xs : List Int} {B : Nat} (hz : z = w.heap.size) (hB : z ≤ B) : OwnFrom B (ReI w z y cs xs) := fun _ _ _ _ h hg hr =>
  have hc := fun r e => (hr r e).2
  ⟨below_grown h.below (Nat.le_of_eq hz) hg fun r e => Nat.le_trans hB (hr r e).1, box_grown h.r1 hg hc, box_grown h.r2 hg hc, by
    obtain ⟨x, m, c, h1, h2, h3⟩ := h.num
    exact ⟨x, m, c, box_grown h1 hg hc, vals_grown h2 hg hc, h3⟩, box_grown h.rd hg hc⟩
theorem ReI.next {w : World} {z y : Nat} {cs xs : List Int} {k : Nat} {W W' : World} (h : ReI w z y cs xs k W) (hz : z = w.heap.size) (hb : Below W.heap.size W W') : ReI w z y cs xs k W' :=
  ⟨h.below.trans (hb.mono (by rw [hz]; exact h.below.size)), box_next h.r1 hb h.r1.lt, box_next h.r2 hb h.r2.lt, by
    obtain ⟨x, m, c, h1, h2, h3⟩ := h.num
    exact ⟨x, m, c, box_next h1 hb h1.lt, h2.next hb, h3⟩, box_next h.rd hb h.rd.lt⟩
/-- It is too great. -/
structure ReX (w : World) (z : Nat) (cs : List Int) (c : Code) (W : World) : Prop where
  ret : c = .ret
  below : Below z w W
  r1 : Boxed W z 22 (.slice none 0 0)
  r2 : Boxed W (z + 1) 24 (.int .i64 3)
  big : readE cs = 3 ∧ readO cs = []
theorem ReX.own {w : World} {z : Nat} {cs : List Int} {B : Nat} (hz : z = w.heap.size) (hB : z ≤ B) : OwnFrom B (ReX w z cs) := fun _ _ _ _ h hg hr =>
  have hc := fun r e => (hr r e).2
  ⟨h.ret, below_grown h.below (Nat.le_of_eq hz) hg fun r e => Nat.le_trans hB (hr r e).1, box_grown h.r1 hg hc, box_grown h.r2 hg hc, h.big⟩
set_option maxHeartbeats 4000000 in
theorem read_in (cs : List Int) (w : World) (hb : Bytes cs) (hl : cs.length ≤ 1000000) :
    CallsIn Fence.wide 6 Tryz.prog 11 #[.string (strOfNums cs)] w (NumB (readE cs) (readO cs) w) := by
  have fd : Fence.wide.fn 24 := trivial
  have fh : Fence.wide.fn 25 := trivial
  have ft : Fence.wide.fn 26 := trivial
  have fs : Fence.wide.fn 21 := trivial
  have C1 := Lib.hid fun w' => decimal_code cs w' hb hl
  unfold NumB
  cases hF : formB cs with
  | false =>
    have e1 : readE cs = 5 := by unfold readE; rw [hF]; rfl
    have e2 : readO cs = [] := by unfold readO; rw [hF]; rfl
    rw [e1, e2]
    rw [hF] at C1
    unfold ValB at C1
    have K1 : Hid (Below w.heap.size w ((w.alloc (.cells #[.slice none 0 0] 22)).alloc (.cells #[.int .i64 0] 24))) := Lib.hid (((Below.refl _ w).alloc (Nat.le_refl _) _).alloc (by simp) _)
    have HW2 : Hid (∀ w2, Below ((w.alloc (.cells #[.slice none 0 0] 22)).alloc (.cells #[.int .i64 0] 24)).heap.size ((w.alloc (.cells #[.slice none 0 0] 22)).alloc (.cells #[.int .i64 0] 24)) w2 → Boxed w2 w.heap.size 22 (.slice none 0 0) ∧ Boxed w2 (w.heap.size + 1) 24 (.int .i64 0)) := Lib.hid fun w2 hb => by
      have x1 := (Boxed.new w 22 (.slice none 0 0)).alloc (.cells #[.int .i64 0] 24)
      have x2 := Boxed.new (w.alloc (.cells #[.slice none 0 0] 22)) 24 (.int .i64 0)
      rw [World.size_alloc] at x2
      exact ⟨box_next x1 hb x1.lt, box_next x2 hb x2.lt⟩
    clear e1 e2 hF hb
    refine callsIn_wide.2 ?_
    go_enter Tryz.func11, Tryz.ntmps11
    go_upto_region 2 with (go_at_call 24; refine (C1.out _).mono ?_; rintro e w2 ⟨rfl, hb2⟩; have K2 := Lib.hid hb2; clear hb2)
    obtain ⟨p1, p2⟩ := HW2.out w2 K2.out
    have P1 := Lib.hid p1
    have P2 := Lib.hid p2
    have c1 := p1.cell
    have g1 := p1.frozen
    have c2 := (p2.other (B' := w.heap.size) (by omega) (.slice none 0 0)).cell
    have g2 := (p2.other (B' := w.heap.size) (by omega) (.slice none 0 0)).frozen
    clear p1 p2 HW2
    go_wp2_with fail
    have y1 := ((P1.out.set (.slice none 0 0)).other (B' := w.heap.size + 1) (by omega) (.int .i64 5)).cell
    have y2 := ((P2.out.other (B' := w.heap.size) (by omega) (.slice none 0 0)).set (.int .i64 5)).cell
    refine bodyPost_ret (v := .tuple #[.slice none 0 0, .int .i64 5]) ?_ rfl ⟨_, rfl, bts_nil _ _, ?_⟩
    · simp [results, Tryz.f11, go_sem, y1, y2]
    · exact ((K1.out.trans (K2.out.mono K1.out.size)).setCell (p := ⟨w.heap.size, 0, none⟩) (Nat.le_refl _) _).setCell (p := ⟨w.heap.size + 1, 0, none⟩) (by show w.heap.size ≤ w.heap.size + 1; omega) _
  | true =>
    rw [hF] at C1
    unfold ValB at C1
    have hfo := hF
    unfold formB at hfo
    have hDec : Dec cs := (of_decide_eq_true hfo).1
    obtain ⟨xs, hxs⟩ : ∃ xs, hparts cs = xs := ⟨_, rfl⟩
    have hall : accV 0 xs = dval cs := by
      rw [← hxs, accV_parts _ cs 0 (Nat.le_refl _) (.inr rfl)]
      simp
    have hrng := hparts_rng _ cs (Nat.le_refl _) hDec
    have hgiv := fun Bs => high_gives (6 - 1) (by decide) Bs cs hDec hl
    rw [hxs] at hrng hgiv
    have HALL := Lib.hid hall
    have HRNG := Lib.hid hrng
    have HGIV := Lib.hid hgiv
    have HRE : Hid (readE cs = toldE (dig (dval cs).toNat) ∧ readO cs = toldO (dig (dval cs).toNat)) := Lib.hid ⟨by unfold readE; rw [if_pos hF], by unfold readO; rw [if_pos hF]⟩
    clear hall hrng hgiv hxs hfo hDec hF hb
    have K1 : Hid (Below w.heap.size w ((w.alloc (.cells #[.slice none 0 0] 22)).alloc (.cells #[.int .i64 0] 24))) := Lib.hid (((Below.refl _ w).alloc (Nat.le_refl _) _).alloc (by simp) _)
    obtain ⟨S, hS⟩ : ∃ S, strOfNums cs = S := ⟨_, rfl⟩
    rw [hS] at C1 HGIV ⊢
    refine callsIn_of_wp_marks Tryz.func11 rfl trivial ?_ rfl
    simp only [Tryz.ntmps11, List.size_toArray, List.length_cons, List.length_nil, Nat.reduceAdd, Nat.reduceSub, Array.replicate_succ, Array.replicate_zero, List.push_toArray, List.append_toArray, List.nil_append, List.cons_append]
    gi_wp2_with (first | (gi_at_call 24; refine (callsIn_wide.2 (C1.out _)).mono ?_; rintro e w2 ⟨rfl, hb2⟩; have K2 := Lib.hid hb2; clear hb2) | (gi_at_call 25; refine (callsIn_wide.2 (high_any _ _)).mono ?_; rintro e w3 ⟨rfl, rfl⟩))
    obtain ⟨z, hz⟩ : ∃ z, w.heap.size = z := ⟨_, rfl⟩
    obtain ⟨y, hy⟩ : ∃ y, w2.heap.size = y := ⟨_, rfl⟩
    obtain ⟨W0, hW0⟩ : ∃ W0, (w2.alloc (.cells #[.slice none 0 0] 22)).alloc (.cells #[.string S] 9) = W0 := ⟨_, rfl⟩
    have hyz : z + 1 < y := by
      have := K2.out.size
      simp only [World.size_alloc, hz, hy] at this
      omega
    have HI0 : Hid (ReI w z y cs xs 0 W0) := Lib.hid (by
      have x1 := (Boxed.new w 22 (.slice none 0 0)).alloc (.cells #[.int .i64 0] 24)
      have x2 := Boxed.new (w.alloc (.cells #[.slice none 0 0] 22)) 24 (.int .i64 0)
      have x3 := Boxed.new w2 22 (.slice none 0 0)
      have x4 := Boxed.new (w2.alloc (.cells #[.slice none 0 0] 22)) 9 (.string S)
      have z1 := box_next x1 K2.out x1.lt
      have z2 := box_next x2 K2.out x2.lt
      simp only [World.size_alloc, hz, hy] at x3 x4 z1 z2
      have hb0 : Below w.heap.size w W0 := by
        rw [← hW0]
        have h1 := K1.out.trans (K2.out.mono K1.out.size)
        exact (h1.alloc h1.size _).alloc (by have := h1.size; simp; omega) _
      rw [hz] at hb0
      refine ⟨hb0, ?_, ?_, ⟨none, 0, 0, ?_, ?_, by omega⟩, ?_⟩
      · rw [← hW0]; exact (z1.alloc _).alloc _
      · rw [← hW0]; exact (z2.alloc _).alloc _
      · rw [← hW0]; exact x3.alloc _
      · show Bts _ W0 _ (dig (0 : Int).toNat)
        rw [show (0 : Int).toNat = 0 from rfl, dig_zero]; exact bts_nil _ _
      · rw [← hW0, hS]; exact x4)
    rw [hW0]
    have hs0 : W0.heap.size = y + 1 + 1 := by rw [← hW0]; simp [hy]
    have HZ := Lib.hid hz.symm
    rw [hz, hy]
    have HSS := Lib.hid hS
    clear hW0 hz hy K1 K2 C1 fd fh hS
    refine rangeFunc_x rfl (by decide) (gf := 43) (lb := #[.pointer (some ⟨y + 1, 0, none⟩)]) rfl trivial eg_high (HGIV.out (y + 1)) abNew_kept (fun _ _ _ _ _ _ => trivial) (fun _ _ _ _ _ _ => trivial) (fun _ => rfl)
      (ReI w z y cs xs) (ReX w z cs) (ReI.own HZ.out (by omega)) (ReX.own HZ.out (by omega)) (fun k A h => by have := h.rd.cell; rwa [HSS.out] at this) (fun k A B h hab => h.next HZ.out hab) HI0.out ?round ?done ?stop
    case round =>
      rintro l k x W hx
      have hxm : x ∈ xs := List.mem_of_getElem? hx
      obtain ⟨hx0, hx1⟩ := HRNG.out x hxm
      have htk : xs.take (k + 1) = xs.take k ++ [x] := by rw [List.take_add_one, hx]; rfl
      obtain ⟨V, hV⟩ : ∃ V, accV 0 (xs.take k) = V := ⟨_, rfl⟩
      obtain ⟨V', hV'⟩ : ∃ V', V * 10000000000000000 + x = V' := ⟨_, rfl⟩
      have hVk : accV 0 (xs.take (k + 1)) = V' := by rw [htk, accV_snoc, hV, hV']
      have hV0 : 0 ≤ V := by rw [← hV]; exact accV_ge _ 0 (Int.le_refl _) (fun a ha => (HRNG.out a (List.mem_of_mem_take ha)).1)
      have hle : V' ≤ dval cs := by
        have e : accV 0 xs = accV V' (xs.drop (k + 1)) := by
          conv => lhs; rw [← List.take_append_drop (k + 1) xs]
          rw [← hVk]
          exact List.foldl_append
        rw [← HALL.out, e]
        exact accV_ge _ _ (by omega) (fun a ha => (HRNG.out a (List.mem_of_mem_drop ha)).1)
      have HVk := Lib.hid hVk
      have HVV := Lib.hid hV
      clear hx hxm htk hV hVk HI0
      simp only [encP]
      gi_wp2
      refine Asg.mk ?_
      intro W1 hI hsz
      have HI := Lib.hid hI
      obtain ⟨bx, m, c, hbx, hv, hm⟩ := hI.num
      rw [HVV.out] at hv
      have hlen : (dig V.toNat).length = m := by
        obtain ⟨a', c', he, _⟩ := Bts.form hv
        injection he with _ e2 _
        exact e2.symm
      obtain ⟨g, hg⟩ : ∃ g, W1.heap.size = g := ⟨_, rfl⟩
      obtain ⟨M, hM⟩ : ∃ M, m + 1 = M := ⟨_, rfl⟩
      have hmk := mk_ints W1 M (by omega)
      rw [hg] at hmk
      obtain ⟨Wa, hWa⟩ : ∃ Wa, W1.alloc (.cells (madeCells #[Value.int .i64 0] M) 3) = Wa := ⟨_, rfl⟩
      rw [hWa] at hmk
      have hRa : RowF Wa g M (fun _ => 0) := by rw [← hWa, ← hg]; exact ⟨fun j hj => made_int W1 M j hj, fun j => frozen_one _ _ _ _, by simp⟩
      have hb1a : Below W1.heap.size W1 Wa := by rw [← hWa]; exact below_new W1 _
      have hRb := hRa.set (p := 0) (by omega) x
      have hva : Bts (fun b => y + 1 < b ∧ b < g) Wa (.slice bx m c) (dig V.toNat) := (Bts.kind hv (fun b h h2 => ⟨h2, by rw [← hg]; exact h⟩)).next hb1a
      have hvb : Bts (fun b => y + 1 < b ∧ b < g) (Wa.setCell ⟨g, 0, none⟩ (.int .i64 x)) (.slice bx m c) (dig V.toNat) := Bts.only hva ((Only.refl (fun b => b = g) Wa).setCell ⟨g, 0, none⟩ (.inl rfl) _) (fun b hb h => by omega)
      have hlimf : Lim 10000000000000000 (fun j => if j = 0 then x else 0) := fun j => by
        show _ ≤ (if j = 0 then x else 0) ∧ (if j = 0 then x else 0) ≤ _
        split <;> omega
      have CT := tally_code g 0 M M M _ 10000000000000000 10000000000000000 _ _ 10000000000000000 _ hRb hvb (fun b hb => by omega) (dig_bytes _) (by omega) (Nat.le_refl _) (by omega) (by omega) hlimf (by omega) (by decide) (by decide)
      have hsum : sumV (tallyF (fun j => if j = 0 then x else 0) 0 (dig V.toNat) 10000000000000000 (dig V.toNat).length) M = V' := by
        rw [tally_all _ _ _ _ _ (by omega), ← hM, sumV_first, val_dig, Int.toNat_of_nonneg hV0]
        show x + 10000000000000000 * (1 * V) = V'
        omega
      obtain ⟨F, hF⟩ : ∃ F, tallyF (fun j => if j = 0 then x else 0) 0 (dig V.toNat) 10000000000000000 (dig V.toNat).length = F := ⟨_, rfl⟩
      have hlimF : LimS F := by rw [← hF]; exact (lim_tally (K := 10000000000000000) hlimf (dig_bytes _) (by omega)).s (by decide)
      rw [hF] at CT hsum
      have HCT : Hid (Calls Tryz.prog 26 #[.slice (some ⟨g, 0, none⟩) M M, .slice bx m c, .int .i64 10000000000000000] (Wa.setCell ⟨g, 0, none⟩ (.int .i64 x)) fun e w' => e = .returned (.tuple #[]) ∧ Hid (RowF w' g M F ∧ Only (· = g) (Wa.setCell ⟨g, 0, none⟩ (.int .i64 x)) w')) := Lib.hid (CT.mono fun e w' h => ⟨h.1, Lib.hid ⟨h.2.1, h.2.2⟩⟩)
      have HB14 : Hid (∀ w3 w4, Only (· = g) (Wa.setCell ⟨g, 0, none⟩ (.int .i64 x)) w3 → Below w3.heap.size w3 w4 → Below W1.heap.size W1 w4) := Lib.hid fun w3 w4 h3 h4 => by
        have hba := hb1a.setCell (p := ⟨g, 0, none⟩) (by show W1.heap.size ≤ g; omega) (.int .i64 x)
        have hb3 : Below W1.heap.size (Wa.setCell ⟨g, 0, none⟩ (.int .i64 x)) w3 := ⟨h3.os, h3.tape, h3.output, h3.size, fun j hj => h3.block j (by have := hba.size; omega) (by show ¬ j = g; omega)⟩
        have hb13 := hba.trans hb3
        exact hb13.trans (h4.mono hb13.size)
      have hg13 : y + 1 < g := by have := HI.out.rd.lt; omega
      have hcb := hRa.1 0 (by omega)
      have hfb := hRa.2.1 0
      have hya := (box_next hbx hb1a hbx.lt)
      have hyb : Boxed (Wa.setCell ⟨g, 0, none⟩ (.int .i64 x)) y 22 (.slice bx m c) := box_cell hya (by omega) _
      have c1 := hbx.cell
      have c2 := hyb.cell
      have hwm : IntKind.i64.wrap ((m : Int) + 1) = (M : Int) := by rw [IntKind.wrap_i64]; omega
      have HBX := Lib.hid hbx
      by_cases hfit : (dig V'.toNat).length ≤ 400
      · have e1 : setE V' = 0 ∧ setO V' = dig V'.toNat := by
          obtain ⟨p1, p2⟩ := set_pos (V := V') (by omega)
          rw [p1, p2]
          unfold toldE toldO
          rw [if_pos hfit, if_pos hfit]
          exact ⟨rfl, rfl⟩
        have HST : Hid (∀ w3, RowF w3 g M F → Calls Tryz.prog 21 #[.slice (some ⟨g, 0, none⟩) M M] w3 fun e w4 => ∃ x' m' c', e = .returned (.tuple #[.slice x' m' c', .int .i64 0]) ∧ Hid (Bts (w3.heap.size ≤ ·) w4 (.slice x' m' c') (dig V'.toNat) ∧ Below w3.heap.size w3 w4)) := Lib.hid fun w3 h3 => by
          have C := settle_code g M F w3 h3 hlimF (by omega)
          rw [hsum] at C
          refine C.mono ?_
          rintro e w4 ⟨v, h1, h2, h5⟩
          rw [e1.2] at h2
          obtain ⟨x', c', rfl, _⟩ := Bts.form h2
          exact ⟨x', _, c', by rw [h1, e1.1], Lib.hid ⟨h2, h5⟩⟩
        have HL : Hid (∀ w3 w4 x' m' c', Only (· = g) (Wa.setCell ⟨g, 0, none⟩ (.int .i64 x)) w3 → Below w3.heap.size w3 w4 → Bts (w3.heap.size ≤ ·) w4 (.slice x' m' c') (dig V'.toNat) → w4.cell? ⟨y, 0, none⟩ = some (.slice bx m c) ∧ w4.frozen? ⟨y, 0, none⟩ = false ∧
            KeepsFrom W0.heap.size W1 (w4.setCell ⟨y, 0, none⟩ (.slice x' m' c')) ∧ True ∧ ReI w z y cs xs (k + 1) (w4.setCell ⟨y, 0, none⟩ (.slice x' m' c'))) := Lib.hid fun w3 w4 x' m' c' h3 h4 hv4 => by
          have h14 := HB14.out w3 w4 h3 h4
          have h := HI.out
          have hby := box_next HBX.out h14 HBX.out.lt
          have hs3 := h3.size
          have hsa : (Wa.setCell ⟨g, 0, none⟩ (.int .i64 x)).heap.size = Wa.heap.size := by simp [World.setCell]
          have hga := hRa.2.2
          have hm' : m' ≤ 400 := by
            obtain ⟨a', c'', he, _⟩ := Bts.form hv4
            injection he with _ e2 _
            omega
          refine ⟨hby.cell, hby.frozen, ((keeps_below h14).trans (KeepsOthers.setCell _ _ _)).from _, trivial, (h.below.trans (h14.mono (Nat.le_trans (Nat.le_of_eq HZ.out) h.below.size))).setCell (p := ⟨y, 0, none⟩) (by show z ≤ y; omega) _, (box_next h.r1 h14 h.r1.lt).other (by omega) _, (box_next h.r2 h14 h.r2.lt).other (by omega) _, ⟨x', m', c', hby.set _, ?_, hm'⟩, (box_next h.rd h14 h.rd.lt).other (by omega) _⟩
          rw [HVk.out]
          exact Bts.only (Bts.kind hv4 (M := (y + 1 < ·)) fun b _ hb => by show y + 1 < b; omega) ((Only.refl (fun b => b = y) w4).setCell ⟨y, 0, none⟩ (.inl rfl) _) (fun b hb h => by omega)
        clear HI HBX HB14 HVk HVV hbx hv hlen hRa hb1a hRb hva hvb hlimf CT hsum hlimF hya hyb hfit e1 hF hWa hle hV'
        gi_wp2_with (first | (gi_at_call 26; refine (CallsIn.inRound l (callsIn_wide.2 HCT.out)).mono ?_; rintro e w3 ⟨rfl, HR3⟩) | (gi_at_call 21; refine (CallsIn.inRound l (callsIn_wide.2 (HST.out _ HR3.out.1))).mono ?_; rintro e w4 ⟨x', m', c', rfl, HV4⟩; obtain ⟨t1, t2, t3⟩ := HL.out w3 w4 x' m' c' HR3.out.2 HV4.out.2 HV4.out.1; have T3 := Lib.hid t3; clear t3))
        exact T3.out
      · have e1 : setE V' = 3 ∧ setO V' = [] := by
          obtain ⟨p1, p2⟩ := set_pos (V := V') (by omega)
          rw [p1, p2]
          unfold toldE toldO
          rw [if_neg hfit, if_neg hfit]
          exact ⟨rfl, rfl⟩
        have HRX : Hid (readE cs = 3 ∧ readO cs = []) := Lib.hid (by
          obtain ⟨t1, t2⟩ := told_full (a := V') (b := dval cs) (by omega) hle hfit
          rw [HRE.out.1, HRE.out.2, ← t1, ← t2]
          unfold toldE toldO
          rw [if_neg hfit, if_neg hfit]
          exact ⟨rfl, rfl⟩)
        have HST : Hid (∀ w3, RowF w3 g M F → Calls Tryz.prog 21 #[.slice (some ⟨g, 0, none⟩) M M] w3 fun e w4 => ∃ x' m' c', e = .returned (.tuple #[.slice x' m' c', .int .i64 3]) ∧ Hid (Below w3.heap.size w3 w4)) := Lib.hid fun w3 h3 => by
          have C := settle_code g M F w3 h3 hlimF (by omega)
          rw [hsum] at C
          refine C.mono ?_
          rintro e w4 ⟨v, h1, h2, h5⟩
          obtain ⟨x', c', rfl, _⟩ := Bts.form h2
          exact ⟨x', _, c', by rw [h1, e1.1], Lib.hid h5⟩
        have HL : Hid (∀ w3 w4 x' m' c', Only (· = g) (Wa.setCell ⟨g, 0, none⟩ (.int .i64 x)) w3 → Below w3.heap.size w3 w4 → w4.cell? ⟨y, 0, none⟩ = some (.slice bx m c) ∧ w4.frozen? ⟨y, 0, none⟩ = false ∧
            (w4.setCell ⟨y, 0, none⟩ (.slice x' m' c')).cell? ⟨z, 0, none⟩ = some (.slice none 0 0) ∧ (w4.setCell ⟨y, 0, none⟩ (.slice x' m' c')).frozen? ⟨z, 0, none⟩ = false ∧
            ((w4.setCell ⟨y, 0, none⟩ (.slice x' m' c')).setCell ⟨z, 0, none⟩ (.slice none 0 0)).cell? ⟨z + 1, 0, none⟩ = some (.int .i64 0) ∧ ((w4.setCell ⟨y, 0, none⟩ (.slice x' m' c')).setCell ⟨z, 0, none⟩ (.slice none 0 0)).frozen? ⟨z + 1, 0, none⟩ = false ∧
            KeepsFrom W0.heap.size W1 (((w4.setCell ⟨y, 0, none⟩ (.slice x' m' c')).setCell ⟨z, 0, none⟩ (.slice none 0 0)).setCell ⟨z + 1, 0, none⟩ (.int .i64 3)) ∧ True ∧ ReX w z cs .ret (((w4.setCell ⟨y, 0, none⟩ (.slice x' m' c')).setCell ⟨z, 0, none⟩ (.slice none 0 0)).setCell ⟨z + 1, 0, none⟩ (.int .i64 3))) := Lib.hid fun w3 w4 x' m' c' h3 h4 => by
          have h14 := HB14.out w3 w4 h3 h4
          have h := HI.out
          have hby := box_next HBX.out h14 HBX.out.lt
          have hr1 := (box_next h.r1 h14 h.r1.lt).other (B' := y) (by omega) (.slice x' m' c')
          have hr2 := ((box_next h.r2 h14 h.r2.lt).other (B' := y) (by omega) (.slice x' m' c')).other (B' := z) (by omega) (.slice none 0 0)
          exact ⟨hby.cell, hby.frozen, hr1.cell, hr1.frozen, hr2.cell, hr2.frozen, ((keeps_below h14).trans (((KeepsOthers.setCell _ _ _).trans (KeepsOthers.setCell _ _ _)).trans (KeepsOthers.setCell _ _ _))).from _, trivial, rfl,
            (((h.below.trans (h14.mono (Nat.le_trans (Nat.le_of_eq HZ.out) h.below.size))).setCell (p := ⟨y, 0, none⟩) (by show z ≤ y; omega) _).setCell (p := ⟨z, 0, none⟩) (Nat.le_refl _) _).setCell (p := ⟨z + 1, 0, none⟩) (by show z ≤ z + 1; omega) _, (hr1.set _).other (by omega) _, hr2.set _, HRX.out⟩
        clear HI HBX HB14 HVk HVV hbx hv hlen hRa hb1a hRb hva hvb hlimf CT hsum hlimF hya hyb hfit e1 hF hWa hle hV' HRX
        gi_wp2_with (first | (gi_at_call 26; refine (CallsIn.inRound l (callsIn_wide.2 HCT.out)).mono ?_; rintro e w3 ⟨rfl, HR3⟩) | (gi_at_call 21; refine (CallsIn.inRound l (callsIn_wide.2 (HST.out _ HR3.out.1))).mono ?_; rintro e w4 ⟨x', m', c', rfl, HV4⟩; obtain ⟨t1, t2, t3, t4, t5, t6, t7⟩ := HL.out w3 w4 x' m' c' HR3.out.2 HV4.out; have T7 := Lib.hid t7; clear t7))
        exact T7.out
    case done =>
      intro D W hD hI hK
      obtain ⟨x, m, c, hbx, hv, hm⟩ := hI.num
      rw [List.take_of_length_le (Nat.le_refl _), HALL.out] at hv
      have HI := Lib.hid hI
      have HV := Lib.hid hv
      have hlen : (dig (dval cs).toNat).length = m := by
        obtain ⟨a', c', he, _⟩ := Bts.form hv
        injection he with _ e2 _
        exact e2.symm
      have HEq : Hid (readE cs = 0 ∧ readO cs = dig (dval cs).toNat) := Lib.hid (by
        rw [HRE.out.1, HRE.out.2]
        unfold toldE toldO
        rw [if_pos (by omega), if_pos (by omega)]
        exact ⟨rfl, rfl⟩)
      have c0 := hbx.cell
      have c1 := hI.r1.cell
      have f1 := hI.r1.frozen
      have p2 := hI.r2.other (B' := z) (by omega) (.slice x m c)
      have c2 := p2.cell
      have f2 := p2.frozen
      clear hI HI0 hlen hbx hv p2
      gi_wp2
      have hk1 := ((KeepsOthers.setCell W ⟨z, 0, none⟩ (.slice x m c)).trans (KeepsOthers.setCell _ ⟨z + 1, 0, none⟩ (.int .i64 0))).same D _ hK rfl
      refine ⟨by simp, .inl ⟨_, _, rfl, run_takeDeferred hk1, ?_⟩⟩
      have y1 := cell_end hk1 rfl (.deferred none) ((HI.out.r1.set (.slice x m c)).other (B' := z + 1) (by omega) (.int .i64 0)).cell
      have y2 := cell_end hk1 rfl (.deferred none) ((HI.out.r2.other (B' := z) (by omega) (.slice x m c)).set (.int .i64 0)).cell
      have hbb := below_end D _ ((HI.out.below.setCell (p := ⟨z, 0, none⟩) (Nat.le_refl _) (.slice x m c)).setCell (p := ⟨z + 1, 0, none⟩) (by show z ≤ z + 1; omega) (.int .i64 0)) (by omega) hk1 (.deferred none)
      refine ⟨.tuple #[.slice x m c, .int .i64 0], ?_, .slice x m c, by rw [HEq.out.1], ?_, hbb.mono (Nat.le_of_eq HZ.out.symm)⟩
      · simp [results, Tryz.f11, go_sem, y1, y2]
      · rw [HEq.out.2]
        have o1 : Only (fun b => b = z ∨ b = z + 1) W ((W.setCell ⟨z, 0, none⟩ (.slice x m c)).setCell ⟨z + 1, 0, none⟩ (.int .i64 0)) := ((Only.refl (fun b => b = z ∨ b = z + 1) W).setCell ⟨z, 0, none⟩ (.inl (.inl rfl)) _).setCell ⟨z + 1, 0, none⟩ (.inl (.inr rfl)) _
        have h1 := Bts.only HV.out o1 (fun b h1 h2 => by omega)
        exact Bts.kind (vals_grown h1 (grownBy_putObj' _ D (.deferred none)) (fun r e => by cases e; exact ⟨_, hk1, rfl⟩)) (fun _ _ _ => trivial)
    case stop =>
      rintro D c W hD hX hK
      obtain ⟨rfl, hb, c1, c2, hbig⟩ := hX
      have HEq := Lib.hid hbig
      have y1 := cell_end hK rfl (.deferred none) c1.cell
      have y2 := cell_end hK rfl (.deferred none) c2.cell
      clear hbig HI0
      gi_wp2
      refine ⟨by simp, .inl ⟨_, _, rfl, run_takeDeferred hK, ?_⟩⟩
      refine ⟨.tuple #[.slice none 0 0, .int .i64 3], ?_, _, by rw [HEq.out.1], by rw [HEq.out.2]; exact bts_nil _ _, (below_end D _ hb (by omega) hK _).mono (Nat.le_of_eq HZ.out.symm)⟩
      simp [results, Tryz.f11, go_sem, y1, y2]
theorem read_code (cs : List Int) (w : World) (hb : Bytes cs) (hl : cs.length ≤ 1000000) : Calls Tryz.prog 11 #[.string (strOfNums cs)] w (NumB (readE cs) (readO cs) w) := callsIn_wide.1 (read_in cs w hb hl)
end Go.Proofs.YtbfacdfmanffdaaGreatDoor
