/- The document's settle: numbers as digits. -/
import Derived.Test.YtbfacdfmanffdaaGreatDoorGRb
namespace Go.Proofs.YtbfacdfmanffdaaGreatDoor
set_option maxRecDepth 1000000
open Go.ChangeShapes Go.WideShapes Go.ChangeAt Go.RowKit

theorem tmod_neg {m : Int} (h : m.tmod 256 < 0) : m.tmod 256 + 256 = m % 256 := by
  rw [Int.tmod_eq_emod] at h ⊢
  split at h <;> rename_i hc
  · omega
  · rw [if_neg hc]; omega
theorem tmod_pos {m : Int} (h : ¬ m.tmod 256 < 0) : m.tmod 256 = m % 256 := by
  rw [Int.tmod_eq_emod] at h ⊢
  split at h <;> rename_i hc
  · rw [if_pos hc]; omega
  · rw [if_neg hc]; omega
theorem tdiv_down (m : Int) : (m - m % 256).tdiv 256 = m / 256 := by
  have e : m - m % 256 = m / 256 * 256 := by omega
  rw [e]
  exact Int.mul_tdiv_cancel _ (by decide)
theorem ints_cells {N : Nat → Prop} {w : World} {v : Value} {xs : List Int} (h : Ints N w v xs) (h0 : 0 < xs.length) :
    ∃ b off c, v = .slice (some ⟨b, off, none⟩) xs.length c ∧ b < w.heap.size ∧ ∀ i, i < xs.length → w.cell? ⟨b, off + i, none⟩ = some (.int .i64 (dgt xs i)) := by
  obtain ⟨a, c, rfl, hc, h⟩ := h
  rw [List.length_map] at hc ⊢
  rcases h with h | ⟨b, off, rfl, hb, h⟩
  · rw [List.map_eq_nil_iff] at h; subst h; cases h0
  · have hcc : ∀ i, i < xs.length → w.cell? ⟨b, off + i, none⟩ = some (.int .i64 (dgt xs i)) := fun i hi => h i _ (by rw [List.getElem?_map, List.getElem?_eq_getElem hi, dgt, List.getD, List.getElem?_eq_getElem hi]; rfl)
    exact ⟨b, off, c, rfl, World.block_lt_of_cell? _ _ (hcc 0 h0), hcc⟩
theorem val_drop {xs : List Int} {i : Nat} (h : i < xs.length) : val (xs.drop i) = dgt xs i + 256 * val (xs.drop (i + 1)) := by
  rw [List.drop_eq_getElem_cons h]
  have : dgt xs i = xs[i] := by unfold dgt; rw [List.getD, List.getElem?_eq_getElem h]; rfl
  rw [this]; rfl
theorem own_take {B : Nat} {w : World} {a : Option Addr} {n c k : Nat} {xs : List Int} (h : w.ownsRow B 5 1 (.slice a n c) n (xs.map (Value.int .u8))) (hk : k ≤ n) (hn : n = xs.length) : OwnB B w (.slice a k c) (xs.take k) := by
  subst hn
  have hl : (xs.take k).length = k := by rw [List.length_take]; omega
  refine ⟨by simp, ?_⟩
  rcases h.2 with ⟨he, h0⟩ | ⟨g, cap, cur, he, hb, hg, hnc, hm, hs, ht⟩
  · injection he with e1 e2 e3
    subst e1 e3
    have : k = 0 := by omega
    subst this
    exact .inl ⟨rfl, by simp⟩
  · injection he with e1 e2 e3
    subst e1 e3
    refine .inr ⟨g, c, cur, by rw [hl], hb, hg, by rw [hl]; omega, hm, hs, ?_⟩
    rw [hl, Nat.mul_one, List.map_take, ← ht, List.take_take, Nat.min_eq_left (by omega)]
/-- One more place. -/
theorem settle_next {V c l rest : Int} {out : List Int} (h : val out + 256 ^ out.length * (c + (l + 256 * rest)) = V) :
    val (out ++ [(c + l) % 256]) + 256 ^ (out ++ [(c + l) % 256]).length * ((c + l) / 256 + rest) = V := by
  have := settle_step h rfl
  have e : c + l - (c + l) % 256 = 256 * ((c + l) / 256) := by omega
  have e2 : 256 * ((c + l) / 256) / 256 = (c + l) / 256 := by omega
  rw [e, e2] at this
  rw [List.length_append, List.length_singleton, Int.pow_succ]
  exact this
theorem pow_big {c : Int} (h : c ≤ 1000000000000) : c < 256 ^ 100 := Int.lt_of_le_of_lt h (by decide)
theorem pow_less {c : Int} {k : Nat} (h0 : 0 < c) (h : c < 256 ^ k) : ∃ j, k = j + 1 ∧ c / 256 < 256 ^ j := by
  cases k with
  | zero => simp at h; omega
  | succ j => exact ⟨j, rfl, by rw [Int.pow_succ] at h; omega⟩
/-- A number's digits, in one's own memory. -/
def DigPost (V : Int) (w : World) (e : Ending) (w' : World) : Prop := ∃ v, e = .returned v ∧ OwnB w.heap.size w' v (dig V.toNat) ∧ Below w.heap.size w w'
set_option maxHeartbeats 8000000 in
theorem settle_ref {N : Nat → Prop} (v : Value) (xs : List Int) (w : World) (hv : Ints N w v xs) (hx : ∀ j, -1000000000000 ≤ dgt xs j ∧ dgt xs j ≤ 1000000000000) (hl : xs.length ≤ 1000000) (h0 : 0 ≤ val xs) :
    Calls Tryz.prog 29 #[v] w (DigPost (val xs) w) := by
  obtain ⟨i0, hi, hz0, hz1, hz2⟩ := info_parts Tryz.info5
  unfold DigPost
  obtain ⟨ln, hln⟩ : ∃ n, xs.length = n := ⟨_, rfl⟩
  have hl' : ln ≤ 1000000 := by omega
  have HC : Hid (∀ (w' : World) (i : Nat), Below w.heap.size w w' → i < ln → ∃ b off c, v = .slice (some ⟨b, off, none⟩) ln c ∧ w'.cell? ⟨b, off + i, none⟩ = some (.int .i64 (dgt xs i))) := Lib.hid fun w' i hb h => by
    obtain ⟨b, off, c, he, hbl, h'⟩ := ints_cells hv (by omega)
    exact ⟨b, off, c, by rw [he, hln], (hb.cell (p := ⟨b, off + i, none⟩) hbl).trans (h' i (by omega))⟩
  have HD : Hid (∀ i, i < ln → val (xs.drop i) = dgt xs i + 256 * val (xs.drop (i + 1))) := Lib.hid fun i h => val_drop (by omega)
  have HE : Hid (∀ i, ln ≤ i → val (xs.drop i) = 0) := Lib.hid fun i h => by rw [List.drop_of_length_le (by omega)]; rfl
  have H0 : Hid (val (xs.drop 0) = val xs) := Lib.hid rfl
  have HX := Lib.hid hx
  obtain ⟨va, vc, rfl, _⟩ := hv
  rw [List.length_map, hln] at *
  obtain ⟨V, hV⟩ : ∃ V, val xs = V := ⟨_, rfl⟩
  rw [hV] at h0 H0 ⊢
  clear hx hV hln
  go_enter Tryz.func29, Tryz.ntmps29
  go_wp2_with fail
  go_loopw [3, 4, 5] (fun s3 s4 s5 wr => ∃ (i : Nat) (c : Int) (O : List Int), s5 = .int .i64 i ∧ s4 = .int .i64 c ∧ O.length = i ∧ (-1000000000000 ≤ c ∧ c ≤ 1000000000000) ∧ i ≤ 2000000 ∧ (ln ≤ i → i ≤ ln + 100 ∧ c < 256 ^ (100 - (i - ln))) ∧ Bytes O ∧ Hid (val O + 256 ^ O.length * (c + val (xs.drop i)) = V) ∧ Hid (OwnB w.heap.size wr s3 O) ∧ Hid (Below w.heap.size w wr)) (fun _ s4 s5 _ => (ln - (RowKit.intOf s5).toNat) * 100000000000000 + (RowKit.intOf s4).toNat)
  case atStart => exact ⟨0, 0, [], rfl, rfl, rfl, ⟨by omega, by omega⟩, by omega, fun h => ⟨by omega, by rw [show 100 - (0 - ln) = 100 by omega]; exact pow_big (c := 0) (by omega)⟩, fun n hn => (by cases hn), Lib.hid (by rw [H0.out]; simp [val]), Lib.hid (World.ownsRow_nil _ _ _ _), Lib.hid (Below.refl _ _)⟩
  case round =>
    obtain ⟨i, c, O, rfl, rfl, hO, ⟨hc1, hc2⟩, hi2, hlast, hOb, HV, OW, HB⟩ := hrel
    by_cases hlt : i < ln
    · obtain ⟨b, off, cp, hvv, q⟩ := HC.out wr i HB.out hlt
      injection hvv with e1 _ e3
      subst e1 e3
      have hx := HX.out i
      have hdr := HD.out i hlt
      obtain ⟨x, hxx⟩ : ∃ x, dgt xs i = x := ⟨_, rfl⟩
      rw [hxx] at q hx hdr
      obtain ⟨m, hm⟩ : ∃ m, c + x = m := ⟨_, rfl⟩
      obtain ⟨e, he⟩ : ∃ e, m % 256 = e := ⟨_, rfl⟩
      obtain ⟨c', hc'⟩ : ∃ e, m / 256 = e := ⟨_, rfl⟩
      have HV' : Hid (val (O ++ [e]) + 256 ^ (O ++ [e]).length * (c' + val (xs.drop (i + 1))) = V) := Lib.hid (by
        have h := HV.out
        rw [hdr] at h
        have := settle_next h
        rw [hm, he, hc'] at this
        exact this)
      have hw1 : IntKind.i64.wrap (c + x) = m := by rw [IntKind.wrap_i64]; omega
      have hw3 : IntKind.i64.wrap (m - e) = m - e := by rw [IntKind.wrap_i64]; omega
      have r2 : (m - e).tdiv 256 = c' := by rw [← he, ← hc']; exact tdiv_down m
      have hcw : IntKind.u8.wrap e = e := by simp [IntKind.wrap, IntKind.bits, IntKind.signed]; omega
      have hOb' : Bytes (O ++ [e]) := fun n hn => by
        rcases List.mem_append.1 hn with h | h
        · exact hOb n h
        · simp at h; omega
      have d1 : decide ((i : Int) < ln) = true := by simpa using hlt
      have d2 : decide (i < ln) = true := by simpa using hlt
      have hi0 : (0 : Int) ≤ i := by omega
      have hil : (i : Int) < ln := by omega
      have hcb : -1000000000000 ≤ c' ∧ c' ≤ 1000000000000 := by omega
      have hend : ln ≤ i + 1 → i + 1 ≤ ln + 100 ∧ c' < 256 ^ (100 - (i + 1 - ln)) := fun h => ⟨by omega, by rw [show 100 - (i + 1 - ln) = 100 by omega]; exact pow_big hcb.2⟩
      have hOl : (O ++ [e]).length = i + 1 := by simp [hO]
      have hown := OW.out
      unfold OwnB at hown
      rw [hO] at hown
      have hsz := HB.out.size
      have HLast := Lib.hid hend
      by_cases hneg : m.tmod 256 < 0
      · obtain ⟨u, hu⟩ : ∃ u, m.tmod 256 = u := ⟨_, rfl⟩
        have hue := tmod_neg hneg
        rw [hu] at hneg hue
        have hw2 : IntKind.i64.wrap (u + 256) = e := by rw [IntKind.wrap_i64]; omega
        have f1 : decide (u < 0) = true := by simpa using hneg
        clear hlast HV hdr hxx hm he hc' hend hue
        go_wp2_with (at_builtin; refine wpList_append_own _ rfl _ _ 22 rfl w.heap.size 5 i0 (.int .u8 0) 1 1 Tryz.underlying22 hi hz0 hz1 hz2 rfl (by decide) _ _ _ rfl (hown.alloc _) ⟨wr.heap.size, 0, none⟩ 1 1 [.int .u8 e] rfl rfl ?c1 ?c2 ?c3 ?c4 ?c5 ?_)
        case c2 => first | rfl | (intro u hu; simp at hu; rw [hu]; rfl)
        case c3 => unfold maxLen; omega
        case c4 => omega
        case c5 => first | omega | (simp; omega)
        intro v' w3 hown' hgrow _
        have hR := own_push (v' := v') e (Nat.le_refl _) OW.out HB.out (by rw [hO]; exact hown') hgrow
        have O7 := Lib.hid hR.1
        have K7 := Lib.hid hR.2
        clear hown' hgrow hown hR OW HB
        go_wp2_with fail
        exact ⟨⟨i + 1, c', O ++ [e], by go_num, rfl, hOl, hcb, by omega, HLast.out, hOb', HV', O7, K7⟩, by simp [RowKit.intOf]; omega⟩
      · have hue := tmod_pos hneg
        rw [he] at hue
        have f1 : decide (e < 0) = false := by simp; omega
        clear hlast HV hdr hxx hm he hc' hend hneg
        go_wp2_with (at_builtin; refine wpList_append_own _ rfl _ _ 22 rfl w.heap.size 5 i0 (.int .u8 0) 1 1 Tryz.underlying22 hi hz0 hz1 hz2 rfl (by decide) _ _ _ rfl (hown.alloc _) ⟨wr.heap.size, 0, none⟩ 1 1 [.int .u8 e] rfl rfl ?c1 ?c2 ?c3 ?c4 ?c5 ?_)
        case c2 => first | rfl | (intro u hu; simp at hu; rw [hu]; rfl)
        case c3 => unfold maxLen; omega
        case c4 => omega
        case c5 => first | omega | (simp; omega)
        intro v' w3 hown' hgrow _
        have hR := own_push (v' := v') e (Nat.le_refl _) OW.out HB.out (by rw [hO]; exact hown') hgrow
        have O7 := Lib.hid hR.1
        have K7 := Lib.hid hR.2
        clear hown' hgrow hown hR OW HB
        go_wp2_with fail
        exact ⟨⟨i + 1, c', O ++ [e], by go_num, rfl, hOl, hcb, by omega, HLast.out, hOb', HV', O7, K7⟩, by simp [RowKit.intOf]; omega⟩
    · have hdi := HE.out i (by omega)
      have hdi2 := HE.out (i + 1) (by omega)
      have d1 : decide ((i : Int) < ln) = false := by simpa using (by omega : ¬ i < ln)
      have d2 : decide (i < ln) = false := by simpa using hlt
      obtain ⟨hla, hlb⟩ := hlast (by omega)
      by_cases hcp : 0 < c
      · have d3 : decide (0 < c) = true := by simpa using hcp
        obtain ⟨k, hk, hk2⟩ := pow_less hcp hlb
        obtain ⟨e, he⟩ : ∃ e, c % 256 = e := ⟨_, rfl⟩
        obtain ⟨c', hc'⟩ : ∃ e, c / 256 = e := ⟨_, rfl⟩
        have HV' : Hid (val (O ++ [e]) + 256 ^ (O ++ [e]).length * (c' + val (xs.drop (i + 1))) = V) := Lib.hid (by
          have h := HV.out
          rw [hdi] at h
          have := settle_next (c := c) (l := 0) (rest := 0) (out := O) (V := V) (by simpa using h)
          rw [Int.add_zero, he, hc'] at this
          rw [hdi2]
          exact this)
        have hw3 : IntKind.i64.wrap (c - e) = c - e := by rw [IntKind.wrap_i64]; omega
        have r2 : (c - e).tdiv 256 = c' := by rw [← he, ← hc']; exact tdiv_down c
        have r1 : c.tmod 256 = e := by rw [Int.tmod_eq_emod_of_nonneg (by omega)]; exact he
        have f1 : decide (e < 0) = false := by simp; omega
        have hcw : IntKind.u8.wrap e = e := by simp [IntKind.wrap, IntKind.bits, IntKind.signed]; omega
        have hOb' : Bytes (O ++ [e]) := fun n hn => by
          rcases List.mem_append.1 hn with h | h
          · exact hOb n h
          · simp at h; omega
        have hcb : -1000000000000 ≤ c' ∧ c' ≤ 1000000000000 := by omega
        have hcl : c'.toNat < c.toNat := by omega
        have HLast : Hid (ln ≤ i + 1 → i + 1 ≤ ln + 100 ∧ c' < 256 ^ (100 - (i + 1 - ln))) := Lib.hid fun h => ⟨by omega, by rw [show 100 - (i + 1 - ln) = k by omega, ← hc']; exact hk2⟩
        have hOl : (O ++ [e]).length = i + 1 := by simp [hO]
        have hown := OW.out
        unfold OwnB at hown
        rw [hO] at hown
        have hsz := HB.out.size
        clear hlast HV hdi hdi2 he hc' hlb hk hk2
        go_wp2_with (at_builtin; refine wpList_append_own _ rfl _ _ 22 rfl w.heap.size 5 i0 (.int .u8 0) 1 1 Tryz.underlying22 hi hz0 hz1 hz2 rfl (by decide) _ _ _ rfl (hown.alloc _) ⟨wr.heap.size, 0, none⟩ 1 1 [.int .u8 e] rfl rfl ?k1 ?k2 ?k3 ?k4 ?k5 ?_)
        case k1 =>
          intro j u hj
          match j, hj with
          | 0, hj => simp at hj; subst hj; simp [Addr.add]
        case k2 => first | rfl | (intro u hu; simp at hu; rw [hu]; rfl)
        case k3 => unfold maxLen; omega
        case k4 => omega
        case k5 => first | omega | (simp; omega)
        intro v' w3 hown' hgrow _
        have hR := own_push (v' := v') e (Nat.le_refl _) OW.out HB.out (by rw [hO]; exact hown') hgrow
        have O7 := Lib.hid hR.1
        have K7 := Lib.hid hR.2
        clear hown' hgrow hown hR OW HB
        go_wp2_with fail
        exact ⟨⟨i + 1, c', O ++ [e], by go_num, rfl, hOl, hcb, by omega, HLast.out, hOb', HV', O7, K7⟩, by simp [RowKit.intOf]; omega⟩
      · have d3 : decide (0 < c) = false := by simpa using hcp
        have hend := settle_end (V := V) (P := 256 ^ O.length) (c := c) (out := O) (by have h := HV.out; rw [hdi, Int.add_zero] at h; exact h) rfl h0 hOb (by omega)
        have HBare := Lib.hid (bare_ref _ O wr (Vals.of_own (e := 5) (by rw [List.length_map]; exact OW.out)) hOb (by omega))
        rw [hend.1] at HBare
        have HOl := Lib.hid hO
        clear HV hdi hdi2 hlb hlast hend hcp
        go_wp2_with (go_at_call 45; refine HBare.out.mono ?_; rintro e w2 ⟨a, k, c9, rfl, rfl, hk, htk, rfl⟩)
        all_goals go_ret
        all_goals exact ⟨_, rfl, by rw [← htk]; exact own_take OW.out hk rfl, HB.out⟩
end Go.Proofs.YtbfacdfmanffdaaGreatDoor
