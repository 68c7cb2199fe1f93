/- The document's Text. -/
import Derived.Test.YtbfacdfmanffdaaGreatDoorGDi
import Derived.Laws.Concat
import Derived.Deep.LoopGhost
namespace Go.Proofs.YtbfacdfmanffdaaGreatDoor
set_option maxRecDepth 1000000
open Go.ChangeShapes Go.WideShapes Go.ChangeAt Go.RowKit

def textO (bs : List Int) : List Int := if rightB bs = true then dec (val bs).toNat else []
/-- The digits, none for 0. -/
def dec' (m : Nat) : List Int := if m = 0 then [] else dec m
theorem dec_step (m : Nat) : dec' (m / 10) ++ [((48 + m % 10 : Nat) : Int)] = dec m := by
  unfold dec'
  by_cases h : m < 10
  · rw [dec_small h, if_pos (by omega), show m % 10 = m by omega]; rfl
  · rw [dec_big h, if_neg (by omega)]
theorem dig_small {r : Nat} (h : r < 256) : dig r = if r = 0 then [] else [(r : Int)] := by
  by_cases h0 : r = 0
  · rw [if_pos h0, h0, dig_zero]
  · rw [if_neg h0, dig_pos h0, show r / 256 = 0 by omega, dig_zero, show r % 256 = r by omega]
theorem str_app (xs ys : List Int) : strOfNums xs ++ strOfNums ys = strOfNums (xs ++ ys) := by
  apply ByteArray.ext
  simp [strOfNums, ByteArray.data_append]
theorem dec_len : ∀ (k n : Nat), (n : Int) < 10 ^ k → (dec n).length ≤ k + 1
  | 0, n, h => by
    have h' : (n : Int) < 1 := h
    rw [dec_small (by omega)]; simp
  | k + 1, n, h => by
    by_cases h0 : n < 10
    · rw [dec_small h0]; simp
    · rw [dec_big h0, List.length_append]
      have := dec_len k (n / 10) (by rw [Int.pow_succ] at h; omega)
      simp; omega
/-- What a division by ten gives. -/
theorem div_ten {N : Nat → Prop} (v : Value) (m : Nat) (hm : (m : Int) < 256 ^ 400) (w : World) (hv : Bts N w v (dig m)) :
    Calls Tryz.prog 36 #[v, .slice (some ⟨w.heap.size, 0, none⟩) 1 1] (w.alloc (.cells #[.int .u8 10] 5)) fun e w' => ∃ q r, e = .returned (.tuple #[q, r, .int .i64 0]) ∧ Bts (w.heap.size ≤ ·) w' q (dig (m / 10)) ∧ Bts (w.heap.size ≤ ·) w' r (dig (m % 10)) ∧ Below w.heap.size w w' := by
  have hr := right_dig hm
  have hl := (right_len hr).1
  have h10 : rightB [10] = true := by decide
  have e10 : val [10] = 10 := by decide
  refine (div_ref v _ (dig m) [10] _ (hv.next (below_new w _)) (dig_bytes _) (by omega) (ownB1 w 10).bts (fun n hn => by simp at hn; omega) (by simp)).mono ?_
  rintro e w' ⟨q, r, rfl, hq, hrr, hb⟩
  have hE : divE (dig m) [10] = 0 := by unfold divE; rw [if_neg (fun h => h ⟨hr, h10⟩), if_neg (by simp)]
  have hQ : divQ (dig m) [10] = dig (m / 10) := by
    unfold divQ
    rw [if_pos hE, val_dig, e10, show ((m : Int) / 10).toNat = m / 10 by omega]
  have hR : divR (dig m) [10] = dig (m % 10) := by
    unfold divR
    rw [if_pos hE, val_dig, e10, show ((m : Int) % 10).toNat = m % 10 by omega]
  rw [hQ] at hq
  rw [hR] at hrr
  rw [hE]
  exact ⟨q, r, rfl, Bts.kind hq (fun b _ h => by simp at h; omega), Bts.kind hrr (fun b _ h => by simp at h; omega), (below_new w _).trans (hb.mono (by simp))⟩
theorem str_list (xs : List Int) : (strOfNums xs).toList = xs.map fun n => UInt8.ofNat n.toNat := by rw [ByteArray.toList_eq]; rfl
set_option maxHeartbeats 8000000 in
theorem text_ref {N : Nat → Prop} (v : Value) (bs : List Int) (w : World) (hv : Bts N w v bs) (hb : Bytes bs) (hl : bs.length ≤ 1000000000000) :
    Calls Tryz.prog 15 #[v] w fun e w' => e = .returned (.string (strOfNums (textO bs))) ∧ Below w.heap.size w w' := by
  have HR := Lib.hid (right_ref v bs w hv hl)
  have HT : Hid (∀ r, rightB bs = r → textO bs = (if r = true then dec (val bs).toNat else [])) := Lib.hid fun r h => by unfold textO; rw [h]
  obtain ⟨r, hr⟩ : ∃ r, rightB bs = r := ⟨_, rfl⟩
  have HT2 := Lib.hid (HT.out r hr)
  have HRR := Lib.hid hr
  rw [hr] at HR
  have HV := Lib.hid hv
  have HBy := Lib.hid hb
  obtain ⟨va, c, rfl, _⟩ := Bts.form hv
  clear hv hb hr HT
  cases r with
  | false =>
    have HT3 : Hid (textO bs = []) := Lib.hid (by rw [HT2.out]; rfl)
    rw [HT3.out]
    go_enter Tryz.func15, Tryz.ntmps15
    go_wp2_with (go_at_call 23; refine HR.out.mono ?_; rintro e w1 ⟨rfl, rfl⟩)
    go_ret
    exact ⟨rfl, Below.refl _ _⟩
  | true =>
    have hlen := (right_len HRR.out).1
    have hvm : Hid (∃ m : Nat, val bs = m ∧ (m : Int) < 256 ^ 400 ∧ Bts N w (.slice va bs.length c) (dig m) ∧ textO bs = dec m) := Lib.hid (by
      obtain ⟨m, hm⟩ := Int.eq_ofNat_of_zero_le (val_nonneg HBy.out)
      refine ⟨m, hm, ?_, ?_, ?_⟩
      · rw [← hm]
        have := drop_small HBy.out hlen 0
        rwa [List.drop_zero] at this
      · have hbare : bs = dig m := by
          have : Bare bs := fun d hd => by
            rcases (right_len HRR.out).2 with h | h
            · rw [h] at hd; cases hd
            · rw [List.getLast?_eq_getElem?] at hd
              have hl' : bs.length - 1 < bs.length := (List.getElem?_eq_some_iff.1 hd).1
              unfold dgt at h
              rw [List.getD, List.getElem?_eq_getElem hl'] at h
              rw [List.getElem?_eq_getElem hl'] at hd
              injection hd with hd
              rw [← hd]
              exact h
          have := dig_val HBy.out this
          rw [hm] at this
          exact this.symm
        rw [← hbare]
        exact HV.out
      · rw [HT2.out, if_pos rfl, hm]; rfl)
    obtain ⟨m, _, hm2, hm3, hm4⟩ := hvm.out
    rw [hm4]
    have HM2 := Lib.hid hm2
    have HM3 := Lib.hid hm3
    have HDL : Hid ((dec m).length ≤ 1001) := Lib.hid (dec_len 1000 m (Int.lt_of_lt_of_le hm2 (by decide +kernel)))
    obtain ⟨ln, hln⟩ : ∃ n, bs.length = n := ⟨_, rfl⟩
    rw [hln] at HM3 HR ⊢
    clear hvm hm2 hm3 hm4 HT2 HBy HV HRR hln hlen hl
    go_enter Tryz.func15, Tryz.ntmps15
    go_wp2_with (go_at_call 23; refine HR.out.mono ?_; rintro e w1 ⟨rfl, rfl⟩)
    go_loopg [3, 4] (2 * m + 2) (fun g s3 s4 wr => ∃ (q : Nat) (S : List Int), s3 = .string (strOfNums S) ∧ q ≤ m ∧ Hid (Bts (fun _ => True) wr s4 (dig q)) ∧ Hid ((S = [] → q = m) ∧ (S ≠ [] → dec m = dec' q ++ S)) ∧ Hid (Below w.heap.size w wr) ∧ 2 * q + (if S = [] then 1 else 0) < g)
    case atStart => exact ⟨m, [], rfl, Nat.le_refl _, Lib.hid (Bts.kind HM3.out fun _ _ _ => trivial), Lib.hid ⟨fun _ => rfl, fun h => absurd rfl h⟩, Lib.hid (Below.refl _ _), by simp⟩
    case round =>
      obtain ⟨q, S, rfl, hq, HS4, HS, HB, hg⟩ := hrel
      clear HM3
      have HS5 := HS4.out
      obtain ⟨a4, c4, rfl, _⟩ := Bts.form HS5
      obtain ⟨lq, hlq⟩ : ∃ n, (dig q).length = n := ⟨_, rfl⟩
      have HLQ : Hid (lq = 0 ↔ q = 0) := Lib.hid (by
        rw [← hlq]
        constructor
        · intro h
          have := val_dig q
          rw [List.eq_nil_of_length_eq_zero h] at this
          have h2 : (0 : Int) = q := this
          omega
        · intro h; rw [h, dig_zero]; rfl)
      have HDv := Lib.hid (div_ten (.slice a4 (dig q).length c4) q (Int.lt_of_le_of_lt (by omega) HM2.out) wr HS5)
      rw [hlq] at HS4 HDv ⊢
      clear HS5 hlq HM2
      have HSl : Hid (S.length ≤ 1001) := Lib.hid (by
        by_cases h : S = []
        · rw [h]; simp
        · have h2 := HDL.out
          rw [HS.out.2 h, List.length_append] at h2
          omega)
      by_cases hex : S ≠ [] ∧ q = 0
      · have hl0 : lq = 0 := HLQ.out.2 hex.2
        have HF : Hid (dec m = S) := Lib.hid (by rw [HS.out.2 hex.1, hex.2]; rfl)
        have t1 : ¬ (strOfNums S).toList = [] := by rw [str_list]; simpa using hex.1
        have t2 : (strOfNums S).toList.isEmpty = false := by rw [List.isEmpty_eq_false_iff]; exact t1
        subst hl0
        have HST : Hid (strOfNums (dec m) = strOfNums S) := Lib.hid (by rw [HF.out])
        clear HF HS hg HSl HLQ HDv hex HS4
        generalize strOfNums S = st at *
        go_wp2_with fail
        go_ret
        exact ⟨by rw [HST.out]; rfl, HB.out⟩
      · have HNx : Hid (dec m = dec' (q / 10) ++ ([((48 + q % 10 : Nat) : Int)] ++ S)) := Lib.hid (by
          by_cases h : S = []
          · rw [h, HS.out.1 h, List.append_nil, dec_step]
          · have hq0 : q ≠ 0 := fun e => hex ⟨h, e⟩
            rw [HS.out.2 h, ← List.append_assoc, dec_step]
            unfold dec'
            rw [if_neg hq0])
        have hcond : (strOfNums S).toList = [] ∨ (¬ (strOfNums S).toList = [] ∧ (strOfNums S).toList.isEmpty = false ∧ 0 < lq) := by
          by_cases h : S = []
          · left; rw [h, str_list]; rfl
          · have t1 : ¬ (strOfNums S).toList = [] := by rw [str_list]; simpa using h
            refine .inr ⟨t1, by rw [List.isEmpty_eq_false_iff]; exact t1, ?_⟩
            have : lq ≠ 0 := fun e => hex ⟨h, HLQ.out.1 e⟩
            omega
        have hgn : ∃ g', gk = g' + 1 ∧ 2 * (q / 10) + 0 < g' := by
          by_cases h : S = []
          · rw [if_pos h] at hg; exact ⟨gk - 1, by omega, by omega⟩
          · have hq0 : q ≠ 0 := fun e => hex ⟨h, e⟩
            rw [if_neg h] at hg
            exact ⟨gk - 1, by omega, by omega⟩
        obtain ⟨g', rfl, hg'⟩ := hgn
        have HAdd : Hid (∀ (d : Int) (w : World), (Op.stringOp .add (strOfNums [d]) (strOfNums S)).run Tryz.prog w = .ok (.string (strOfNums ([d] ++ S))) w) := Lib.hid fun d w => by
          rw [run_string_add_sum w _ _ (by rw [strOfNums_size, strOfNums_size]; have := HSl.out; simp; omega), str_app]
        have HG := Lib.hid hg'
        have hdm : q % 10 < 10 := Nat.mod_lt _ (by decide)
        have hle : q / 10 ≤ m := by omega
        clear hex hg hg' HS HSl HLQ HS4 hq
        obtain ⟨q', hq'⟩ : ∃ x, q / 10 = x := ⟨_, rfl⟩
        obtain ⟨d, hd⟩ : ∃ x, q % 10 = x := ⟨_, rfl⟩
        rw [hq', hd] at HNx HDv
        rw [hd] at hdm
        rw [hq'] at hle HG
        clear hq' hd
        rcases hcond with t1 | ⟨t1, t2, t3⟩
        · obtain ⟨st, hst⟩ : ∃ st, strOfNums S = st := ⟨_, rfl⟩
          rw [hst] at t1 HAdd ⊢
          go_upto_region 7 with (go_at_call 36; refine HDv.out.mono ?_; rintro e w5 ⟨vq, vr, rfl, hvq, hvr, hb5⟩)
          have VQ := Lib.hid hvq
          have VR := Lib.hid hvr
          have K5 := Lib.hid (HB.out.trans (hb5.mono HB.out.size))
          obtain ⟨x6, c6, rfl, _⟩ := Bts.form hvr
          have hcell : Hid (0 < (dig d).length → ∃ b off, x6 = some ⟨b, off, none⟩ ∧ w5.cell? ⟨b, off, none⟩ = some (.int .u8 (dgt (dig d) 0))) := Lib.hid fun h => by
            obtain ⟨b, off, c', he, _, _, _, h'⟩ := bts_cells VR.out h
            injection he with e1 _ _
            exact ⟨b, off, e1, h' 0 h⟩
          have HNew : Hid (Below w.heap.size w (w5.alloc (.cells #[.int .u8 ((48 + d : Nat) : Int)] 5)) ∧ Bts (fun _ => True) (w5.alloc (.cells #[.int .u8 ((48 + d : Nat) : Int)] 5)) vq (dig q')) := Lib.hid ⟨K5.out.alloc K5.out.size _, (Bts.kind VQ.out fun _ _ _ => trivial).next (below_new w5 _)⟩
          have hcv := conv_bts (ownB1 w5 ((48 + d : Nat) : Int)).bts
          have hcv' : (convert 22 9 (.slice (some ⟨w5.heap.size, 0, none⟩) 1 1)).run Tryz.prog (w5.alloc (.cells #[.int .u8 ((48 + d : Nat) : Int)] 5)) = .ok (.string (strOfNums [((48 + d : Nat) : Int)])) (w5.alloc (.cells #[.int .u8 ((48 + d : Nat) : Int)] 5)) := hcv
          have hadd := fun w => HAdd.out ((48 + d : Nat) : Int) w
          have hwu : IntKind.u8.wrap ((48 + d : Nat) : Int) = ((48 + d : Nat) : Int) := u8_small (by omega) (by omega)
          obtain ⟨D, hD⟩ : ∃ D : Int, ((48 + d : Nat) : Int) = D := ⟨_, rfl⟩
          rw [hD] at hcv' hadd hwu HNx HNew
          have hD2 : (48 : Int) + d = D := by omega
          clear hvq hvr hb5 hcv HDv HAdd
          by_cases hd0 : d = 0
          · have hl : (dig d).length = 0 := by rw [hd0, dig_zero]; rfl
            have hD3 : D = 48 := by omega
            rw [hl]
            subst hD3
            clear hcell hD2 hl VR VQ
            go_wp2_with fail
            go_roundg g'
            case rel => exact ⟨q', [48] ++ S, by rfl, hle, Lib.hid HNew.out.2, Lib.hid ⟨fun h => by simp at h, fun _ => HNx.out⟩, Lib.hid HNew.out.1, by rw [if_neg (by simp)]; exact HG.out⟩
            case measure => omega
          · have hde : dig d = [(d : Int)] := by rw [dig_small (by omega), if_neg hd0]
            have hl : (dig d).length = 1 := by rw [hde]; rfl
            obtain ⟨b6, off6, rfl, q6⟩ := hcell.out (by rw [hl]; omega)
            have hdg : dgt (dig d) 0 = d := by rw [hde]; rfl
            rw [hdg] at q6
            rw [hl]
            clear hcell hde hl hdg VR VQ
            go_wp2_with fail
            go_roundg g'
            case rel => exact ⟨q', [D] ++ S, by rfl, hle, Lib.hid HNew.out.2, Lib.hid ⟨fun h => by simp at h, fun _ => HNx.out⟩, Lib.hid HNew.out.1, by rw [if_neg (by simp)]; exact HG.out⟩
            case measure => omega
        · obtain ⟨st, hst⟩ : ∃ st, strOfNums S = st := ⟨_, rfl⟩
          rw [hst] at t1 t2 HAdd ⊢
          go_upto_region 7 with (go_at_call 36; refine HDv.out.mono ?_; rintro e w5 ⟨vq, vr, rfl, hvq, hvr, hb5⟩)
          have VQ := Lib.hid hvq
          have VR := Lib.hid hvr
          have K5 := Lib.hid (HB.out.trans (hb5.mono HB.out.size))
          obtain ⟨x6, c6, rfl, _⟩ := Bts.form hvr
          have hcell : Hid (0 < (dig d).length → ∃ b off, x6 = some ⟨b, off, none⟩ ∧ w5.cell? ⟨b, off, none⟩ = some (.int .u8 (dgt (dig d) 0))) := Lib.hid fun h => by
            obtain ⟨b, off, c', he, _, _, _, h'⟩ := bts_cells VR.out h
            injection he with e1 _ _
            exact ⟨b, off, e1, h' 0 h⟩
          have HNew : Hid (Below w.heap.size w (w5.alloc (.cells #[.int .u8 ((48 + d : Nat) : Int)] 5)) ∧ Bts (fun _ => True) (w5.alloc (.cells #[.int .u8 ((48 + d : Nat) : Int)] 5)) vq (dig q')) := Lib.hid ⟨K5.out.alloc K5.out.size _, (Bts.kind VQ.out fun _ _ _ => trivial).next (below_new w5 _)⟩
          have hcv := conv_bts (ownB1 w5 ((48 + d : Nat) : Int)).bts
          have hcv' : (convert 22 9 (.slice (some ⟨w5.heap.size, 0, none⟩) 1 1)).run Tryz.prog (w5.alloc (.cells #[.int .u8 ((48 + d : Nat) : Int)] 5)) = .ok (.string (strOfNums [((48 + d : Nat) : Int)])) (w5.alloc (.cells #[.int .u8 ((48 + d : Nat) : Int)] 5)) := hcv
          have hadd := fun w => HAdd.out ((48 + d : Nat) : Int) w
          have hwu : IntKind.u8.wrap ((48 + d : Nat) : Int) = ((48 + d : Nat) : Int) := u8_small (by omega) (by omega)
          obtain ⟨D, hD⟩ : ∃ D : Int, ((48 + d : Nat) : Int) = D := ⟨_, rfl⟩
          rw [hD] at hcv' hadd hwu HNx HNew
          have hD2 : (48 : Int) + d = D := by omega
          clear hvq hvr hb5 hcv HDv HAdd
          by_cases hd0 : d = 0
          · have hl : (dig d).length = 0 := by rw [hd0, dig_zero]; rfl
            have hD3 : D = 48 := by omega
            rw [hl]
            subst hD3
            clear hcell hD2 hl VR VQ
            go_wp2_with fail
            go_roundg g'
            case rel => exact ⟨q', [48] ++ S, by rfl, hle, Lib.hid HNew.out.2, Lib.hid ⟨fun h => by simp at h, fun _ => HNx.out⟩, Lib.hid HNew.out.1, by rw [if_neg (by simp)]; exact HG.out⟩
            case measure => omega
          · have hde : dig d = [(d : Int)] := by rw [dig_small (by omega), if_neg hd0]
            have hl : (dig d).length = 1 := by rw [hde]; rfl
            obtain ⟨b6, off6, rfl, q6⟩ := hcell.out (by rw [hl]; omega)
            have hdg : dgt (dig d) 0 = d := by rw [hde]; rfl
            rw [hdg] at q6
            rw [hl]
            clear hcell hde hl hdg VR VQ
            go_wp2_with fail
            go_roundg g'
            case rel => exact ⟨q', [D] ++ S, by rfl, hle, Lib.hid HNew.out.2, Lib.hid ⟨fun h => by simp at h, fun _ => HNx.out⟩, Lib.hid HNew.out.1, by rw [if_neg (by simp)]; exact HG.out⟩
            case measure => omega
end Go.Proofs.YtbfacdfmanffdaaGreatDoor
