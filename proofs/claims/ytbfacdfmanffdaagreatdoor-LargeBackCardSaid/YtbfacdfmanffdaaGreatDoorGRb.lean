/- The document's bare, Right and Of: noughts at the end; is it one; the digits of a number. -/
import Derived.Test.YtbfacdfmanffdaaGreatDoorGMb
import Derived.Laws.OwnMore
namespace Go.Proofs.YtbfacdfmanffdaaGreatDoor
set_option maxRecDepth 1000000
open Go.ChangeShapes Go.WideShapes Go.ChangeAt Go.RowKit

theorem bts_cells {N : Nat → Prop} {w : World} {v : Value} {bs : List Int} (h : Bts N w v bs) (h0 : 0 < bs.length) :
    ∃ b off c, v = .slice (some ⟨b, off, none⟩) bs.length c ∧ bs.length ≤ c ∧ b < w.heap.size ∧ N b ∧ ∀ i, i < bs.length → w.cell? ⟨b, off + i, none⟩ = some (.int .u8 (dgt bs i)) := by
  obtain ⟨a, c, rfl, hc, h⟩ := h
  rw [List.length_map] at hc ⊢
  rcases h with h | ⟨b, off, rfl, hb, h⟩
  · rw [List.map_eq_nil_iff] at h; subst h; cases h0
  · have hcc : ∀ i, i < bs.length → w.cell? ⟨b, off + i, none⟩ = some (.int .u8 (dgt bs i)) := fun i hi => h i _ (by rw [List.getElem?_map, List.getElem?_eq_getElem hi, dgt, List.getD, List.getElem?_eq_getElem hi]; rfl)
    exact ⟨b, off, c, rfl, hc, World.block_lt_of_cell? _ _ (hcc 0 h0), hb, hcc⟩
theorem take_bytes {bs : List Int} (h : Bytes bs) (k : Nat) : Bytes (bs.take k) := fun n hn => h n (List.mem_of_mem_take hn)
theorem dgt_rng {bs : List Int} (h : Bytes bs) (j : Nat) : 0 ≤ dgt bs j ∧ dgt bs j ≤ 255 := by
  unfold dgt
  rw [List.getD]
  cases e : bs[j]? with
  | none => simp
  | some n => exact h n (List.mem_of_getElem? e)
theorem val_take_less {bs : List Int} {j : Nat} (hj : j < bs.length) (h0 : dgt bs j = 0) : val (bs.take j) = val (bs.take (j + 1)) := by
  have hl : (bs.take (j + 1)).length = j + 1 := by rw [List.length_take]; omega
  have h1 : (bs.take (j + 1))[j]? = some 0 := by
    rw [List.getElem?_take, if_pos (by omega), List.getElem?_eq_getElem hj]
    have : dgt bs j = bs[j] := by unfold dgt; rw [List.getD, List.getElem?_eq_getElem hj]; rfl
    rw [← this, h0]
  have := val_take_zero h1 (by omega)
  rw [List.take_take, Nat.min_eq_left (by omega)] at this
  exact this
theorem bare_take {bs : List Int} (hb : Bytes bs) {j : Nat} (hj : j < bs.length) (h0 : dgt bs j ≠ 0) : Bare (bs.take (j + 1)) := by
  intro d hd
  have hl : (bs.take (j + 1)).length = j + 1 := by rw [List.length_take]; omega
  rw [List.getLast?_eq_getElem?, hl, Nat.add_sub_cancel, List.getElem?_take, if_pos (by omega), List.getElem?_eq_getElem hj] at hd
  injection hd with hd
  have : dgt bs j = bs[j] := by unfold dgt; rw [List.getD, List.getElem?_eq_getElem hj]; rfl
  rw [← hd, ← this]
  exact h0
set_option maxHeartbeats 4000000 in
theorem bare_ref {N : Nat → Prop} (v : Value) (bs : List Int) (w : World) (hv : Bts N w v bs) (hb : Bytes bs) (hl : bs.length ≤ 1000000000000) :
    Calls Tryz.prog 45 #[v] w fun e w' => ∃ a k c, v = .slice a bs.length c ∧ e = .returned (.slice a k c) ∧ k ≤ bs.length ∧ bs.take k = dig (val bs).toNat ∧ w = w' := by
  have HB := Lib.hid hb
  have HV := Lib.hid hv
  obtain ⟨ln, hln⟩ : ∃ n, bs.length = n := ⟨_, rfl⟩
  have HL := Lib.hid hln
  obtain ⟨va, c, rfl, hc⟩ := Bts.form hv
  have HC : Hid (0 < ln → ∃ b off, va = some ⟨b, off, none⟩ ∧ ∀ i, i < ln → w.cell? ⟨b, off + i, none⟩ = some (.int .u8 (dgt bs i))) := Lib.hid fun h => by
    obtain ⟨b, off, c', he, _, _, _, h'⟩ := bts_cells hv (by omega)
    injection he with e1 _ _
    exact ⟨b, off, e1, fun i hi => h' i (by omega)⟩
  rw [hln] at hl hc ⊢
  clear hv hb hln HV
  go_enter Tryz.func45, Tryz.ntmps45
  go_wp2_with fail
  go_loopw [0] (fun s0 wr => ∃ k : Nat, k ≤ ln ∧ s0 = .slice va k c ∧ Hid (val (bs.take k) = val bs) ∧ wr = w) (fun s0 _ => match s0 with | .slice _ k _ => k | _ => 0)
  case atStart => exact ⟨ln, Nat.le_refl _, rfl, Lib.hid (by rw [List.take_of_length_le (by rw [HL.out]; exact Nat.le_refl _)]), rfl⟩
  case round =>
    obtain ⟨k, hk, rfl, HK, hwr⟩ := hrel
    subst hwr
    cases k with
    | zero =>
      have HF : Hid (bs.take 0 = dig (val bs).toNat) := Lib.hid (by
        have := HK.out
        rw [← this]
        show [] = dig (0 : Int).toNat
        simp [dig_zero])
      clear HK HC
      go_wp2_with fail
      go_ret
      exact ⟨va, 0, c, rfl, rfl, Nat.zero_le _, HF.out, rfl⟩
    | succ j =>
      obtain ⟨b, off, rfl, hcell⟩ := HC.out (by omega)
      have q := hcell j (by omega)
      have hlt : j < bs.length := by rw [HL.out]; omega
      have hcj : j + 1 ≤ c := by omega
      by_cases h0 : dgt bs j = 0
      · rw [h0] at q
        have HK' : Hid (val (bs.take j) = val bs) := Lib.hid ((val_take_less hlt h0).trans HK.out)
        clear HK HC hcell hlt h0
        go_wp2_with fail
        exact ⟨⟨j, by omega, rfl, HK', by trivial⟩, by show j < j + 1; omega⟩
      · have f1 : (dgt bs j == 0) = false := by simpa using h0
        have HF : Hid (bs.take (j + 1) = dig (val bs).toNat) := Lib.hid (by
          rw [← HK.out]
          exact (dig_val (take_bytes HB.out _) (bare_take HB.out hlt h0)).symm)
        clear HK HC hcell hlt h0
        go_wp2_with fail
        go_ret
        exact ⟨_, j + 1, c, rfl, rfl, hk, HF.out, rfl⟩
/-- Is it a number? -/
def rightB (bs : List Int) : Bool := decide (bs = [] ∨ (bs.length ≤ 400 ∧ dgt bs (bs.length - 1) ≠ 0))
set_option maxHeartbeats 4000000 in
theorem right_ref {N : Nat → Prop} (v : Value) (bs : List Int) (w : World) (hv : Bts N w v bs) (hl : bs.length ≤ 1000000000000) :
    Calls Tryz.prog 23 #[v] w fun e w' => e = .returned (.bool (rightB bs)) ∧ w = w' := by
  obtain ⟨ln, hln⟩ : ∃ n, bs.length = n := ⟨_, rfl⟩
  obtain ⟨va, c, rfl, hc⟩ := Bts.form hv
  cases ln with
  | zero =>
    have e : bs = [] := List.eq_nil_of_length_eq_zero hln
    subst e
    have hR : rightB [] = true := by simp [rightB]
    rw [hR]
    simp only [List.length_nil]
    clear hv hl hln hc
    go_enter Tryz.func23, Tryz.ntmps23
    go_wp2
    go_ret
    exact ⟨rfl, rfl⟩
  | succ j =>
    obtain ⟨b, off, c', he, _, _, _, h'⟩ := bts_cells hv (by omega)
    injection he with e1 e2 e3
    subst e1
    have q := h' j (by omega)
    have hR : rightB bs = decide (j + 1 ≤ 400 ∧ dgt bs j ≠ 0) := by
      unfold rightB
      rw [hln, Nat.add_sub_cancel]
      have hne : bs ≠ [] := by intro h; rw [h] at hln; simp at hln
      simp [hne]
    rw [hR]
    rw [hln] at hl hc ⊢
    clear hv h' hR hln
    by_cases h4 : j + 1 ≤ 400
    · have d1 : decide ((j : Int) + 1 ≤ 400) = true := by simpa using (by omega : (j : Int) + 1 ≤ 400)
      by_cases h0 : dgt bs j = 0
      · have f1 : (dgt bs j == 0) = true := by simpa using h0
        have hf : decide (j + 1 ≤ 400 ∧ dgt bs j ≠ 0) = false := by simp [h0]
        rw [hf]
        have H0 := Lib.hid h0
        clear hf h0
        go_enter Tryz.func23, Tryz.ntmps23
        go_wp2
        go_ret
        refine ⟨?_, rfl⟩
        show Ending.returned (.bool (((j : Int) + 1 == 0) || (dgt bs j != 0))) = _
        have e0 : ((j : Int) + 1 == 0) = false := by simp; omega
        have h0 := H0.out
        rw [e0]
        simp [h0]
      · have f1 : (dgt bs j == 0) = false := by simpa using h0
        have hf : decide (j + 1 ≤ 400 ∧ dgt bs j ≠ 0) = true := by simp [h0, h4]
        rw [hf]
        have H0 := Lib.hid h0
        clear hf h0
        go_enter Tryz.func23, Tryz.ntmps23
        go_wp2
        go_ret
        refine ⟨?_, rfl⟩
        show Ending.returned (.bool (((j : Int) + 1 == 0) || (dgt bs j != 0))) = _
        have e0 : ((j : Int) + 1 == 0) = false := by simp; omega
        have h0 := H0.out
        rw [e0]
        simp [h0]
    · have d1 : decide ((j : Int) + 1 ≤ 400) = false := by simpa using (by omega : ¬ (j : Int) + 1 ≤ 400)
      have hf : decide (j + 1 ≤ 400 ∧ dgt bs j ≠ 0) = false := by simp [h4]
      rw [hf]
      clear hf
      go_enter Tryz.func23, Tryz.ntmps23
      go_wp2
      go_ret
      exact ⟨rfl, rfl⟩
theorem Tryz.info5 : (Tryz.prog.info? 5).map (fun i => (i.zero, i.size, i.bytes)) = some (some (.int .u8 0), 1, 1) := by kernel_rfl
/-- The bytes xs in memory of one's own. -/
def OwnB (B : Nat) (w : World) (v : Value) (xs : List Int) : Prop := w.ownsRow B 5 1 v xs.length (xs.map (Value.int .u8))
theorem below_new (w : World) (o : Obj) : Below w.heap.size w (w.alloc o) := (Below.refl _ _).alloc (Nat.le_refl _) o
/-- A byte more. -/
theorem own_push {base : Nat} {R : List Int} (d : Int) {w wr w1 : World} {u v' : Value} {ob : Obj} (hb : base ≤ w.heap.size)
    (hown : OwnB base wr u R) (hnx : Below base w wr)
    (hown' : w1.ownsRow base 5 1 v' (R.length + 1) (R.map (Value.int .u8) ++ [.int .u8 d])) (hgrow : (wr.alloc ob).grownBy w1 u.ownBlock) :
    OwnB base w1 v' (R ++ [d]) ∧ Below base w w1 := by
  have hz := hnx.size
  refine ⟨?_, (hnx.alloc (by omega) ob).grown hgrow (by simp; omega) fun g hg => (World.ownsRow.lt hown g hg).1⟩
  unfold OwnB
  rw [List.map_append, List.length_append]
  exact hown'
set_option maxHeartbeats 4000000 in
theorem of_ref (n : Int) (w : World) (hn : n ≤ 9223372036854775807) (h0 : 0 ≤ n) :
    Calls Tryz.prog 8 #[.int .i64 n] w fun e w' => ∃ v, e = .returned (.tuple #[v, .int .i64 0]) ∧ OwnB w.heap.size w' v (dig n.toNat) ∧ Below w.heap.size w w' := by
  obtain ⟨i0, hi, hz0, hz1, hz2⟩ := info_parts Tryz.info5
  obtain ⟨m, rfl⟩ := Int.eq_ofNat_of_zero_le h0
  have d0 : decide ((m : Int) < 0) = false := by simp
  have HM : Hid (∃ x, dig (m : Int).toNat = x) := Lib.hid ⟨_, rfl⟩
  obtain ⟨X, hX⟩ := HM.out
  have HX := Lib.hid hX
  rw [hX]
  clear hX HM
  have hlen : Hid (X.length ≤ 8) := Lib.hid (by rw [← HX.out, dig_len]; simp; omega)
  go_enter Tryz.func8, Tryz.ntmps8
  go_wp2_with fail
  go_loopw [0, 4] (fun s0 s4 wr => ∃ (q : Nat) (O : List Int), s0 = .int .i64 q ∧ (q : Int) ≤ m ∧ Hid (O ++ dig q = X) ∧ O.length ≤ 8 ∧ Hid (OwnB w.heap.size wr s4 O) ∧ Hid (Below w.heap.size w wr)) (fun s0 _ _ => (RowKit.intOf s0).toNat)
  case atStart => exact ⟨m, [], rfl, Int.le_refl _, Lib.hid (by simpa using HX.out), Nat.zero_le _, Lib.hid (World.ownsRow_nil _ _ _ _), Lib.hid (Below.refl _ _)⟩
  case round =>
    obtain ⟨q, O, rfl, hq, HQ, hO, OW, HB⟩ := hrel
    by_cases hq0 : q = 0
    · have d1 : decide (0 < (q : Int)) = false := by simp [hq0]
      have d2 : decide (0 < q) = false := by simp [hq0]
      have HF : Hid (O = X) := Lib.hid (by have := HQ.out; rw [hq0, dig_zero, List.append_nil] at this; exact this)
      clear HQ hq0 hq
      go_wp2_with fail
      go_ret2
      exact ⟨_, rfl, by rw [← HF.out]; exact OW.out, HB.out⟩
    · have hqp : (0 : Int) < q := by omega
      have d1 : decide (0 < (q : Int)) = true := by simpa using hqp
      have d2 : decide (0 < q) = true := by simpa using (by omega : 0 < q)
      have r1 : (q : Int).tmod 256 = ((q % 256 : Nat) : Int) := by rw [Int.tmod_eq_emod_of_nonneg (by omega)]; rfl
      have r2 : (q : Int).tdiv 256 = ((q / 256 : Nat) : Int) := by rw [Int.tdiv_eq_ediv_of_nonneg (by omega)]; rfl
      have HQ' : Hid ((O ++ [((q % 256 : Nat) : Int)]) ++ dig (q / 256) = X) := Lib.hid (by have := HQ.out; rw [dig_pos hq0] at this; simpa using this)
      have hO2 : (O ++ [((q % 256 : Nat) : Int)]).length ≤ 8 := Nat.le_trans (by rw [← HQ'.out, List.length_append (bs := dig (q / 256))]; omega) hlen.out
      have hlt : q / 256 < q := by omega
      have hle : ((q / 256 : Nat) : Int) ≤ m := by omega
      obtain ⟨d, hd⟩ : ∃ d : Nat, q % 256 = d := ⟨_, rfl⟩
      obtain ⟨q', hq'⟩ : ∃ d : Nat, q / 256 = d := ⟨_, rfl⟩
      have hd255 : d < 256 := by omega
      have hcw : IntKind.u8.wrap (d : Int) = (d : Int) := by simp [IntKind.wrap, IntKind.bits, IntKind.signed]; omega
      rw [hd] at r1 HQ' hO2
      rw [hq'] at r2 HQ' hlt hle
      have hown := OW.out
      unfold OwnB at hown
      have hsz := HB.out.size
      clear HQ hq0 hd hq'
      go_wp2_with (at_builtin; refine wpList_append_own _ rfl _ _ 22 rfl w.heap.size 5 i0 (.int .u8 0) 1 1 Tryz.underlying22 hi hz0 hz1 hz2 rfl (by decide) _ _ _ rfl (hown.alloc _) ⟨wr.heap.size, 0, none⟩ 1 1 [.int .u8 (d : Int)] rfl rfl ?c1 ?c2 ?c3 ?c4 ?c5 ?_)
      case c1 =>
        intro j u hj
        match j, hj with
        | 0, hj => simp at hj; subst hj; simp [Addr.add]
      case c2 => intro u hu; simp at hu; rw [hu]; rfl
      case c3 => unfold maxLen; omega
      case c4 => omega
      case c5 => simp; omega
      intro v' w3 hown' hgrow _
      have hR := own_push (v' := v') (d : Int) (Nat.le_refl _) OW.out HB.out hown' hgrow
      have O7 := Lib.hid hR.1
      have K7 := Lib.hid hR.2
      clear hown' hgrow hown hR OW HB
      go_wp2_with fail
      exact ⟨⟨q', O ++ [(d : Int)], rfl, hle, HQ', hO2, O7, K7⟩, by simp [RowKit.intOf]; omega⟩
end Go.Proofs.YtbfacdfmanffdaaGreatDoor
