/- Package large's decimal and highParts. -/
import Derived.Test.YtbfacdfmanffdaaGreatDoorJRp
import Derived.Test.YtbfacdfmanffdaaGreatDoorJLo
import Derived.Lib.SmallJoins
namespace Go.Proofs.YtbfacdfmanffdaaGreatDoor
set_option maxRecDepth 1000000
open Go.ChangeShapes Go.WideShapes Go.ChangeAt Go.RowKit Go.Shelf
attribute [local go_sem] Oper.semAt_some

theorem empty_list {s : ByteArray} : s.toList.isEmpty = decide (s.data.toList = []) := by
  rw [ByteArray.toList_eq]
  cases s.data.toList <;> rfl
theorem str_empty (cs : List Int) : (strOfNums cs).toList.isEmpty = decide (cs = []) := by
  rw [empty_list, str_data]
  cases cs <;> rfl
set_option maxHeartbeats 4000000 in
theorem decimal_code (cs : List Int) (w : World) (hb : Bytes cs) (hl : cs.length ≤ 1000000) : Calls Tryz.prog 24 #[.string (strOfNums cs)] w (ValB (.bool (formB cs)) w) := by
  have hs0 := str_empty cs
  have hsz : (strOfNums cs).size = cs.length := strOfNums_size cs
  have hix := fun h0 w' => str_index cs hb 0 h0 w'
  have HTR : Hid (Calls Tryz.prog 42 #[.string (strOfNums cs), .string digitsSet] w fun e w' => e = .returned (.string ⟨(Lib.trimS (strOfNums cs).data.toList digitsSet.data.toList).toArray⟩) ∧ Below w.heap.size w w') :=
    Lib.hid (Any.strings_Trim_laid Tryz.lays160 (by kernel_rfl) (strOfNums cs) digitsSet w (by omega) (by decide) (ascii_of_all (by decide)))
  have hrb := dgt_rng hb 0
  have HTE : Hid ((⟨(Lib.trimS (strOfNums cs).data.toList digitsSet.data.toList).toArray⟩ : ByteArray).toList.isEmpty = decide (Dec cs)) := Lib.hid (by
    rw [empty_list]
    show decide (Lib.trimS (strOfNums cs).data.toList digitsSet.data.toList = []) = _
    rw [decide_eq_decide]
    exact trim_digits hb)
  have HF : Hid (formB cs = decide (Dec cs ∧ cs ≠ [] ∧ ¬ (dgt cs 0 = 48 ∧ 1 < cs.length))) := Lib.hid rfl
  obtain ⟨T, hT⟩ : ∃ T, (⟨(Lib.trimS (strOfNums cs).data.toList digitsSet.data.toList).toArray⟩ : ByteArray) = T := ⟨_, rfl⟩
  rw [hT] at HTR HTE
  obtain ⟨S, hS⟩ : ∃ S, strOfNums cs = S := ⟨_, rfl⟩
  rw [hS] at hs0 hsz HTR hix ⊢
  obtain ⟨d, hd⟩ : ∃ d, dgt cs 0 = d := ⟨_, rfl⟩
  rw [hd] at hix HF hrb
  obtain ⟨F, hF⟩ : ∃ F, formB cs = F := ⟨_, rfl⟩
  rw [hF] at HF ⊢
  obtain ⟨L, hL⟩ : ∃ L, cs.length = L := ⟨_, rfl⟩
  rw [hL] at hsz HF hl hix
  unfold ValB
  clear hT hS hd hF hb
  by_cases h0 : cs = []
  · have hL0 : L = 0 := by rw [← hL, h0]; rfl
    rw [decide_eq_true h0] at hs0
    obtain rfl : F = false := by rw [HF.out]; exact decide_eq_false fun h => h.2.1 h0
    clear hL HF hix HTE
    go_enter Tryz.func24, Tryz.ntmps24
    go_wp2_with fail
    go_ret
    exact ⟨rfl, Below.refl _ _⟩
  · have hL0 : 0 < L := by rw [← hL]; exact List.length_pos_iff.2 h0
    rw [decide_eq_false h0] at hs0
    have hix := hix hL0 w
    have hS1 : ((S[0]'(by rw [hsz]; exact hL0)).toNat : Int) = d := by
      have e2 := run_index_string (P := Tryz.prog) (w := w) 9 S .i64 0 Tryz.underlying9
      rw [dif_pos ⟨by omega, by omega⟩] at e2
      have e3 := e2.symm.trans hix
      injection e3 with e3 _
      injection e3
    clear hix
    by_cases h1 : d = 48 ∧ 1 < L
    · obtain ⟨rfl, h2⟩ := h1
      obtain rfl : F = false := by rw [HF.out]; exact decide_eq_false fun h => h.2.2 ⟨rfl, h2⟩
      have d1 : decide ((1 : Int) < L) = true := by simp; omega
      clear HF HTE HTR
      go_enter Tryz.func24, Tryz.ntmps24
      go_wp2_with fail
      go_ret
      exact ⟨rfl, Below.refl _ _⟩
    · obtain rfl : F = decide (Dec cs) := by
        rw [HF.out, decide_eq_decide]
        exact ⟨fun h => h.1, fun h => ⟨h, h0, h1⟩⟩
      obtain ⟨b, hb⟩ : ∃ b, decide (Dec cs) = b := ⟨_, rfl⟩
      rw [hb] at HTE ⊢
      have hte := HTE.out
      have d1 : (d = 48 → decide ((1 : Int) < L) = false) := fun h => by rw [decide_eq_false_iff_not]; intro h2; exact h1 ⟨h, by omega⟩
      clear HF HTE hb
      by_cases hd : d = 48
      · subst hd
        have d1 := d1 rfl
        go_enter Tryz.func24, Tryz.ntmps24
        go_wp2_with (go_at_call 42; refine HTR.out.mono ?_; rintro e w2 ⟨rfl, hb2⟩; have K2 := Lib.hid hb2; clear hb2)
        go_ret
        exact ⟨rfl, K2.out⟩
      · have d2 : (d == 48) = false := by rw [beq_eq_false_iff_ne]; exact hd
        clear d1
        go_enter Tryz.func24, Tryz.ntmps24
        go_wp2_with (go_at_call 42; refine HTR.out.mono ?_; rintro e w2 ⟨rfl, hb2⟩; have K2 := Lib.hid hb2; clear hb2)
        go_ret
        exact ⟨rfl, K2.out⟩
theorem high_any (s : ByteArray) (w : World) : Calls Tryz.prog 25 #[.string s] w fun e w' => e = .returned (.func (.func 43) #[] #[.pointer (some ⟨w.heap.size, 0, none⟩)]) ∧ w.alloc (.cells #[.string s] 9) = w' := by
  go_enter Tryz.func25, Tryz.ntmps25
  go_wp2_with fail
  go_ret
  exact ⟨rfl, rfl⟩
theorem eg_high : ∀ args w, (callFunc 43 args).run Tryz.prog w = .ok (.enter 43 args) w := enters_of Tryz.func43 (by kernel_rfl) rfl
theorem str_cut (cs : List Int) (a b : Nat) : (strOfNums cs).extract a b = strOfNums ((cs.drop a).take (b - a)) := by
  rw [← str_of]
  apply ByteArray.ext
  rw [ByteArray.data_extract]
  apply Array.ext'
  rw [Array.toList_extract, str_data]
  simp [List.extract_eq_take_drop, List.map_drop, List.map_take]
def strLen (v : Value) : Nat := match v with
  | .string s => s.size
  | _ => 0
set_option maxHeartbeats 4000000 in
theorem high_gives (n : Nat) (hn : 1 ≤ n) (Bs : Nat) (cs : List Int) (hd : Dec cs) (hl : cs.length ≤ 1000000) :
    SeqX Fence.wide n Tryz.prog 43 #[.pointer (some ⟨Bs, 0, none⟩)] encP (hparts cs) AbNew KpAny (fun _ W => W.cell? ⟨Bs, 0, none⟩ = some (.string (strOfNums cs))) := by
  intro l J Jx W hR hAb hY h0
  have fa : Fence.wide.fn 44 := trivial
  have HAb := Lib.hid hAb
  have HY := Lib.hid hY
  have H0 := Lib.hid h0
  have hs0 := hR 0 W h0
  have HD := Lib.hid hd
  clear hR hY h0 hAb hd
  refine callsIn_of_wp Tryz.func43 rfl trivial ?_ rfl
  simp only [Tryz.ntmps43, List.size_toArray, List.length_cons, List.length_nil, Nat.reduceAdd, Nat.reduceSub, Array.replicate_succ, Array.replicate_zero, List.push_toArray, List.append_toArray, List.nil_append, List.cons_append]
  gi_wp2
  gi_loopw [3] (fun s3 wr => ∃ (rest pre : List Int), s3 = .string (strOfNums rest) ∧ rest.length ≤ 1000000 ∧ Hid (hparts cs = pre ++ hparts rest ∧ Dec rest ∧ J pre.length wr)) (fun s3 _ => strLen s3)
  case atStart => exact ⟨cs, [], rfl, hl, Lib.hid ⟨rfl, HD.out, H0.out⟩⟩
  case round =>
    obtain ⟨rest, pre, rfl, hrl, HJ⟩ := hrel
    have hse := str_empty rest
    by_cases h0 : rest = []
    · rw [decide_eq_true h0] at hse
      have HH0 := Lib.hid h0
      obtain ⟨S, hS⟩ : ∃ S, strOfNums rest = S := ⟨_, rfl⟩
      rw [hS] at hse ⊢
      clear H0 hs0 h0 hS
      gi_wp2
      go_end0
      refine ⟨⟨_, rfl⟩, .inl ?_⟩
      have h1 := HJ.out
      rw [HH0.out, hparts_nil, List.append_nil] at h1
      rw [h1.1]
      exact h1.2.2
    · rw [decide_eq_false h0] at hse
      have hk := chunk_le h0
      have hp := chunk_pos rest
      have hkd : (rest.length - 1) % 16 + 1 = chunk rest := rfl
      have hsz : (strOfNums rest).size = rest.length := strOfNums_size rest
      have hc := hparts_cons h0
      have hDt : Dec (rest.take (chunk rest)) := fun c hc => HJ.out.2.1 c (List.mem_of_mem_take hc)
      have hAT := atoi_dec hDt (fun e => by
        have := congrArg List.length e
        rw [List.length_take, List.length_nil] at this
        omega)
      have e1 := str_cut rest 0 (chunk rest)
      have e2 := str_cut rest (chunk rest) rest.length
      rw [List.drop_zero, Nat.sub_zero] at e1
      rw [List.take_of_length_le (by rw [List.length_drop]; exact Nat.le_refl _)] at e2
      obtain ⟨k, hkk⟩ : ∃ k, chunk rest = k := ⟨_, rfl⟩
      obtain ⟨R, hR⟩ : ∃ R, rest.length = R := ⟨_, rfl⟩
      have hR0 : 0 < R := by rw [← hR]; exact List.length_pos_iff.2 h0
      have hT0 : (strOfNums (rest.take k)).size = k := by rw [strOfNums_size, List.length_take]; rw [hkk] at hk; omega
      have hT1 : (strOfNums (rest.drop k)).size = R - k := by rw [strOfNums_size, List.length_drop, hR]
      rw [hkk] at hk hp hkd hc hAT e1 e2
      rw [hR] at hk hkd hsz hrl e2
      obtain ⟨x, hx⟩ : ∃ x, dval (rest.take k) = x := ⟨_, rfl⟩
      rw [hx] at hc hAT
      obtain ⟨S1, hS1⟩ : ∃ S, strOfNums (rest.take k) = S := ⟨_, rfl⟩
      rw [hS1] at hAT e1 hT0
      have HATO : Hid (∀ w', Calls Tryz.prog 44 #[.string S1] w' fun e w'' => e = .returned (.tuple #[.int .i64 x, .nilIface]) ∧ Below w'.heap.size w' w'') := Lib.hid fun w' => (Tryz.strconv_Atoi S1 x (by omega) hAT w').mono fun e w'' h => ⟨h.1, by
        obtain ⟨t, ht⟩ := h.2
        rw [ht]
        exact Go.Joins.below_bytesWorld _ _ _ _ (Nat.le_refl _)⟩
      have hlt : pre.length < (hparts cs).length := by rw [HJ.out.1, hc]; simp
      have HX : Hid ((hparts cs)[pre.length]? = some x) := Lib.hid (by rw [HJ.out.1, hc, List.getElem?_append_right (Nat.le_refl _), Nat.sub_self]; rfl)
      have HNX : Hid (hparts cs = (pre ++ [x]) ++ hparts (rest.drop k) ∧ Dec (rest.drop k)) := Lib.hid ⟨by rw [HJ.out.1, hc, List.append_assoc]; rfl, fun c hc => HJ.out.2.1 c (List.mem_of_mem_drop hc)⟩
      have hrd : (rest.drop k).length ≤ 1000000 := by rw [List.length_drop]; omega
      have HM : Hid (strLen (.string (strOfNums (rest.drop k))) < strLen (.string (strOfNums rest))) := Lib.hid (by show (strOfNums _).size < (strOfNums _).size; rw [hT1, hsz]; omega)
      obtain ⟨S2, hS2⟩ : ∃ S, strOfNums (rest.drop k) = S := ⟨_, rfl⟩
      rw [hS2] at e2 HM hT1
      have HS2 := Lib.hid hS2
      obtain ⟨S, hS⟩ : ∃ S, strOfNums rest = S := ⟨_, rfl⟩
      rw [hS] at hse hsz e1 e2 HM ⊢
      obtain ⟨q, hq⟩ : ∃ q, (R - 1) % 16 = q := ⟨_, rfl⟩
      have hk1 : ((R : Int) - 1).tmod 16 = (q : Int) := by rw [Int.tmod_eq_emod_of_nonneg (by omega)]; omega
      have hk2 : (q : Int) + 1 = (k : Int) := by omega
      have hq1 : q ≤ 15 := by omega
      have hk0 : (0 : Int) ≤ k := by omega
      have hkR : (k : Int) ≤ R := by omega
      have HH0 := Lib.hid h0
      clear hc hAT hDt hkd hlt hS2 hS1 hS hx hs0 H0 hR hkk h0 hq hp
      gi_wp2_with (gi_at_call 44; refine (callsIn_wide.2 (HATO.out _)).mono ?_; rintro e w2 ⟨rfl, hb2⟩; obtain ⟨fn, tmps, assign, body, hy, hRr⟩ := HY.out _ _ w2 HX.out (HAb.out _ _ _ HJ.out.2.2 hb2); unfold encP at hy; have HRr := Lib.hid hRr; clear hRr hb2)
      refine HRr.out.mono ?_
      rintro e W3 ⟨_, ⟨rfl, hJ3⟩ | ⟨rfl, hJ3⟩⟩
      · have HJ3 := Lib.hid hJ3
        clear hJ3
        gi_wp2
        go_roundw
        case rel => exact ⟨rest.drop k, pre ++ [x], by rw [HS2.out], hrd, Lib.hid ⟨HNX.out.1, HNX.out.2, by rw [List.length_append]; exact HJ3.out⟩⟩
        case measure => exact HM.out
      · have HJ3 := Lib.hid hJ3
        clear hJ3
        gi_wp2
        refine bodyPost_ret (results_none rfl _ _ _) rfl ?_
        exact ⟨⟨_, rfl⟩, .inr HJ3.out⟩
end Go.Proofs.YtbfacdfmanffdaaGreatDoor
