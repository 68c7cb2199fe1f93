/- Proved: for all ints l, all bytes b and every int at the law WordBytes returns true: word.Put, word.All and word.Get give the chapter's answers. No condition. -/
import Derived.Test.YteemgmagnhkifaaOpen
namespace Go.Proofs.Yteemgmagnhkifaa.wordBytes
open Go.ChangeShapes Go.WideShapes Go.ChangeAt Go.RowKit

theorem put_ref_is (o : Int) (w : World) : Calls Try.prog 31 #[.int .i64 o] w fun e w' => ∃ v, e = .returned v ∧ Bts w' v (byts o 4) ∧ Below w.heap.size w w' :=
  (put_ref o w).mono fun _ _ ⟨v, he, hown, hb⟩ => ⟨v, he, own_bts hown, hb⟩
theorem all_is (v : Value) (ls : List Int) (w : World) (hv : Ints w v ls) (hl : ls.length ≤ 1000) : Calls Try.prog 32 #[v] w fun e w' => ∃ r, e = .returned r ∧ Bts w' r (allB ls) ∧ Below w.heap.size w w' :=
  (all_any v ls w hv hl).mono fun _ _ ⟨v, he, hown, hb⟩ => ⟨v, he, own_bts hown, hb⟩
theorem all_ref_is (v : Value) (ls : List Int) (w : World) (hv : Ints w v ls) (hl : ls.length ≤ 1000) : Calls Try.prog 33 #[v] w fun e w' => ∃ r, e = .returned r ∧ Bts w' r (allB ls) ∧ Below w.heap.size w w' :=
  (all_ref v ls w hv hl).mono fun _ _ ⟨v, he, hown, hb⟩ => ⟨v, he, own_bts hown, hb⟩

set_option maxHeartbeats 1600000 in
set_option maxRecDepth 1000000 in
theorem walk (w : World) (v0 : Value) (x0 : List Int) (hb0 : Ints w v0 x0) (hm0 : x0.length ≤ maxLen) (v1 : Value) (x1 : List Int) (hb1 : Bts w v1 x1) (hy1 : Bytes x1) (hm1 : x1.length ≤ maxLen) (a2 : Int) (w2 : (Lit.int .i64 a2).wf = true) :
    Calls Try.prog 4 #[v0, v1, .int .i64 a2] w fun e w' => e = .returned (.bool true) ∧ Below w.heap.size w w' := by
  obtain ⟨h1, h2⟩ := wf_i64 w2
  unfold maxLen at hm0 hm1
  have hv0 := hb0
  have hv1 := hb1
  obtain ⟨a, c, rfl, hb0⟩ := hb0
  obtain ⟨a', c', rfl, _⟩ := hb1
  by_cases hl : 900 < x0.length
  · have hl' : (900 : Int) < x0.length := by omega
    clear hb0
    go_enter Try.func4, Try.ntmps4
    go_wp2_with (go_at_call 26; refine (known_true _).mono ?_; rintro e w2 ⟨rfl, hb2⟩)
    go_ret
    exact ⟨rfl, hb2⟩
  have hl' : ¬ (900 : Int) < x0.length := by omega
  by_cases hk : 4000 < x1.length
  · have hk' : (4000 : Int) < x1.length := by omega
    clear hb0
    go_enter Try.func4, Try.ntmps4
    go_wp2_with (go_at_call 26; refine (known_true _).mono ?_; rintro e w2 ⟨rfl, hb2⟩)
    go_ret
    exact ⟨rfl, hb2⟩
  have hk' : ¬ (4000 : Int) < x1.length := by omega
  have HB0 := Lib.hid hb0
  have HV0 := Lib.hid hv0
  have HV1 := Lib.hid hv1
  have HY1 := Lib.hid hy1
  clear hb0 hv0 hv1 hy1
  go_enter Try.func4, Try.ntmps4
  go_wp2_with fail
  refine (get_any _ x1 a2 _ HV1.out HY1.out (by omega) h1 h2).mono ?_
  rintro e w3 ⟨rfl, rfl⟩
  go_wp2_with fail
  refine (get_ref _ x1 a2 _ HV1.out HY1.out (by omega) h1 h2).mono ?_
  rintro e w3 ⟨rfl, rfl⟩
  go_wp2
  go_loopw [11] (fun i wr => ∃ k : Nat, k ≤ x0.length ∧ i = .int .i64 k ∧ Below w.heap.size w wr) (fun i _ => x0.length - (intOf i).toNat)
  case atStart => exact ⟨0, by omega, rfl, Below.refl _ _⟩
  case round =>
    obtain ⟨k, hk, rfl, hnx⟩ := hrel
    by_cases hlt : k < x0.length
    · rcases HB0.out with rfl | ⟨b, off, rfl, hcell⟩
      · simp at hlt
      have hc := hcell k hlt
      have hc' : wr.cell? ⟨b, off + k, none⟩ = some (.int .i64 (x0.getD k 0)) := (hnx.cell (World.block_lt_of_cell? _ _ hc)).trans hc
      clear hcell hc
      have hlt' : (k : Int) < x0.length := by omega
      generalize x0.getD k 0 = o at hc'
      go_wp2
      go_region_held3 (fun w' => w'.cell? ⟨b, off + k, none⟩ = some (.int .i64 o)) (first | go_keep | (exact (hb3.cell (World.block_lt_of_cell? _ _ (by assumption))).trans (by assumption)) | (exact (hb4.cell (World.block_lt_of_cell? _ _ (by assumption))).trans (by assumption)))
        (first | (go_at_call 30; refine (put_is _ _).mono ?_; rintro e w3 ⟨v3, rfl, hv3, hb3⟩) | (go_at_call 31; refine (put_ref_is _ _).mono ?_; rintro e w4 ⟨v4, rfl, hv4, hb4⟩) | (go_at_call 29; refine (same_eq _ _ _ _ (hv3.kept hb4) hv4).mono ?_; rintro e w5 ⟨rfl, rfl⟩))
      go_wp2
      have hn3 := hnx.drew.trans (Below.mono hb3 hnx.size)
      have hn4 := hn3.trans (Below.mono hb4 hn3.size)
      go_roundw
      case rel => exact ⟨k + 1, by omega, by go_num, hn4⟩
      case measure => simp [intOf]; omega
    · go_wp2_with fail
      refine (all_is _ x0 _ (HV0.out.kept hnx) (by omega)).mono ?_
      rintro e w3 ⟨v3, rfl, hv3, hb3⟩
      have hn3 := hnx.trans (hb3.mono hnx.size)
      go_wp2_with fail
      refine (all_ref_is _ x0 _ (HV0.out.kept hn3) (by omega)).mono ?_
      rintro e w4 ⟨v4, rfl, hv4, hb4⟩
      have hn4 := hn3.trans (hb4.mono hn3.size)
      go_wp2_with fail
      refine (same_eq _ _ _ _ (hv3.kept hb4) hv4).mono ?_
      rintro e w5 ⟨rfl, rfl⟩
      go_wp2_with fail
      refine (known_true _).mono ?_
      rintro e w5 ⟨rfl, hb5⟩
      go_wp2
      go_ret
      exact ⟨rfl, hn4.trans (hb5.mono hn4.size)⟩

set_option maxRecDepth 100000 in
theorem lifted (os : Os) (started : os.Started) (H : Type) (enc : TypeId × Value → H) :
    ReturnsInHanded {} Try.checked os 4 .any (Rows.wordBytesSpec.pre6 enc Try.prog Try.f4 Rows.wordBytesRow.domain false) (Rows.wordBytesSpec.post enc Try.prog Try.f4 false true false false) := by
  refine returnsInHanded_of_change (C := Try.checked) Try.own started (by kernel_rfl) Try.func4
    (ChangeSpec.witness6 (enc := enc) (C := Try.checked) false ⟨#[], #[.slice none 0 0, .slice none 0 0, .int .i64 0], []⟩ 8 (by kernel_rfl) (by kernel_rfl) (by kernel_rfl) (by kernel_rfl)) ?_
  intro W base args ds gs before hval0 hW _ _
  have hval : ∀ (j : Nat) t v, Try.f4.params[j]? = some t → args[j]? = some v → Value.okWide Try.prog W .any base t v := hval0
  have hW' := hW
  obtain ⟨p, q, hA0, hV, rfl, _, _⟩ := hW
  have hA : DataW.TrodAll enc Try.prog W 0 (fun _ => true) true Try.f4.params.toList args.toList ds p := hA0
  rw [Try.params4] at hA hval
  obtain ⟨v0, vs0, d0, ds0, p0, q0, hargs, rfl, rfl, h0, r0⟩ := trodAll_cons hA
  obtain ⟨v1, vs1, d1, ds1, p1, q1, rfl, rfl, rfl, h1, r1⟩ := trodAll_cons r0
  obtain ⟨v2, vs2, d2, ds2, p2, q2, rfl, rfl, rfl, h2, r2⟩ := trodAll_cons r1
  obtain ⟨rfl, rfl, rfl⟩ := trodAll_nil r2
  obtain rfl : args = #[v0, v1, v2] := by cases args; simp_all
  obtain ⟨rfl, rfl⟩ := trodVars_none hV
  obtain ⟨a2, rfl, rfl, rfl, w2⟩ := open_int Try.underlying3 (hval 2 3 v2 rfl rfl) h2
  clear hA0 hval0
  simp only [List.append_nil] at hW'
  obtain ⟨x0, hb0, hm0⟩ := open_nums (hval 0 32 v0 rfl rfl) h0
  have hlt0 : ∀ x ∈ p0, x.block < W.heap.size := fun x hx => by simpa using hW'.lt x (by simp [hx])
  obtain ⟨x1, hb1, hy1, hm1⟩ := open_bts (hval 1 33 v1 rfl rfl) h1
  have hlt1 : ∀ x ∈ p1, x.block < W.heap.size := fun x hx => by simpa using hW'.lt x (by simp [hx])
  refine (walk W v0 x0 hb0 hm0 v1 x1 hb1 hy1 hm1 a2 w2).mono fun e W' ⟨he, hg⟩ => ?_
  subst he
  exact ⟨_, rfl, _, _, _, [], _, [], hW', (trodAll_cons_mk (shut_bool Try.underlying4 _) trodAll_mk0), (trodAll_cons_mk (Below.trod Try.laidOut (by kernel_rfl) (of_decide_eq_true (by kernel_rfl)) h0 hg hlt0) (trodAll_cons_mk (Below.trod Try.laidOut (by kernel_rfl) (of_decide_eq_true (by kernel_rfl)) h1 hg hlt1) (trodAll_cons_mk (shut_int Try.underlying3 w2) trodAll_mk0))), rfl, hg.frame _, fun h => by cases h⟩

theorem over : Rows.wordBytesRow.holds Try.pinned (OpenSpec.ofChange Rows.wordBytesSpec) :=
  OpenClaim.holds_of_wide 4 Try.f4 rfl rfl rfl rfl rfl rfl rfl ⟨rfl, rfl, rfl, rfl, rfl⟩ rfl rfl rfl rfl rfl (by kernel_rfl) Try.func4 (by kernel_rfl)
    (of_decide_eq_true (by kernel_rfl)) (by unfold Func.isWrapper; first | (rw [if_pos (by decide +kernel)]; kernel_rfl) | (rw [if_neg (by decide +kernel)]; exact ⟨rfl, rfl⟩))
    (fun os started H enc _ => lifted os started H enc)
end Go.Proofs.Yteemgmagnhkifaa.wordBytes
namespace Go.Proofs.Yteemgmagnhkifaa
theorem wordBytes_holds : Rows.WordBytesSaid := wordBytes.over
end Go.Proofs.Yteemgmagnhkifaa
