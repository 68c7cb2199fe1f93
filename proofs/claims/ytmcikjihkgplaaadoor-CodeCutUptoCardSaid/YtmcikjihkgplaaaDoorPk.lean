/- The package's write: what it answers. -/
import Derived.Test.YtmcikjihkgplaaaDoorPj
import Derived.Test.YtmcikjihkgplaaaDoorKSm
import Derived.Test.YtmcikjihkgplaaaDoorKBw
namespace Go.Proofs.YtmcikjihkgplaaaDoor
set_option maxRecDepth 1000000
open Go.ChangeShapes Go.WideShapes Go.ChangeAt Go.RowKit

theorem Tri.other {w : World} {p g : Nat} {x y z : Value} (h : Tri p x y z w) (hg : p ≠ g) (j : Nat) (v : Value) : Tri p x y z (w.setCell ⟨g, j, none⟩ v) := by
  obtain ⟨⟨h1, h2, h3⟩, h5, h6⟩ := h
  refine ⟨⟨?_, ?_, ?_⟩, fun j => ?_, by simpa [World.setCell] using h6⟩
  · rw [World.cell?_setCell_other _ _ _ _ (by intro e; injection e; omega)]; exact h1
  · rw [World.cell?_setCell_other _ _ _ _ (by intro e; injection e; omega)]; exact h2
  · rw [World.cell?_setCell_other _ _ _ _ (by intro e; injection e; omega)]; exact h3
  · rw [World.frozen?_setCell]; exact h5 j
/-- The bytes that are tried, by how many they are. -/
def triO (o : OpT) (t : Nat) : Int × Int × Int := if t = 1 then (G1 o.k o.n o.m, 0, 0) else if t = 2 then (G2 o.k o.n o.m, G2' o.k o.n o.m, 0) else (G3 o.k, IntKind.u8.wrap o.m, IntKind.u8.wrap o.n)
def gsO (o : OpT) (t : Nat) : List Int := [(triO o t).1, (triO o t).2.1, (triO o t).2.2].take t
theorem gsO_len {o : OpT} {t : Nat} (h : t ≤ 3) : (gsO o t).length = t := by simp [gsO]; omega
theorem guess_any (o : OpT) (t : Nat) (w : World) (hT : Tabs w) (h0 : 0 < o.k) (h1 : o.k < 27) (ht : 1 ≤ t) (ht2 : t ≤ 3) :
    Calls Tryd.prog 33 #[.agg #[.int .i64 o.k, .int .i64 o.n, .int .i64 o.m, .int .i64 o.l], .int .i64 t] w (GuessR (triO o t).1 (triO o t).2.1 (triO o t).2.2 w) := by
  have : t = 1 ∨ t = 2 ∨ t = 3 := by omega
  rcases this with rfl | rfl | rfl
  · exact guess_one o w hT h0 h1
  · exact guess_two o w hT h0 h1
  · exact guess_three o w hT h0 h1
theorem gsO_bytes (o : OpT) (t : Nat) : Bytes (gsO o t) := by
  have key : ∀ x ∈ [(triO o t).1, (triO o t).2.1, (triO o t).2.2], 0 ≤ x ∧ x ≤ 255 := by
    intro x hx
    have hu := fun n => u8_rng n
    have h1 : 0 ≤ G1 o.k o.n o.m ∧ G1 o.k o.n o.m < 256 := hu _
    have h2 := two_rng o.k o.n o.m
    have h3 : 0 ≤ G3 o.k ∧ G3 o.k < 256 := hu _
    have h4 := hu o.m
    have h5 := hu o.n
    unfold triO at hx
    split at hx
    · simp at hx; rcases hx with rfl | rfl <;> omega
    · split at hx
      · simp at hx; rcases hx with rfl | rfl | rfl <;> omega
      · simp at hx; rcases hx with rfl | rfl | rfl <;> omega
  exact fun x hx => key x (List.mem_of_mem_take hx)
theorem tri_bts {p : Nat} {o : OpT} {t : Nat} {w : World} (h : Tri p (.int .u8 (triO o t).1) (.int .u8 (triO o t).2.1) (.int .u8 (triO o t).2.2) w) (ht : t ≤ 3) : Bts (· = p) w (.slice (some ⟨p, 0, none⟩) t 3) (gsO o t) := by
  refine ⟨some ⟨p, 0, none⟩, 3, by rw [List.length_map, gsO_len ht], by rw [List.length_map, gsO_len ht]; exact ht, .inr ⟨p, 0, rfl, rfl, fun j u hu => ?_⟩⟩
  have hj : j < t := by
    have := (List.getElem?_eq_some_iff.1 hu).1
    rw [List.length_map, gsO_len ht] at this
    exact this
  have h3 : j = 0 ∨ j = 1 ∨ j = 2 := by omega
  unfold gsO at hu
  rw [List.getElem?_map, List.getElem?_take, if_pos hj] at hu
  rcases h3 with rfl | rfl | rfl
  · simp at hu; subst hu; exact h.1.1
  · simp at hu; subst hu; exact h.1.2.1
  · simp at hu; subst hu; exact h.1.2.2
def Tried (o : OpT) (t : Nat) : Prop := (2 ≤ t → no1 o) ∧ (3 ≤ t → no2 o 176) ∧ (4 ≤ t → OneIs o none)
theorem tried_one (o : OpT) : Tried o 1 := ⟨fun h => by omega, fun h => by omega, fun h => by omega⟩
theorem tried_next {o : OpT} {t : Nat} (hk : o.k ≠ 0) (h1 : 1 ≤ t) (h3 : t ≤ 3) (h : Tried o t) (hf : tellsB (gsO o t) o = false) : Tried o (t + 1) := by
  have : t = 1 ∨ t = 2 ∨ t = 3 := by omega
  rcases this with rfl | rfl | rfl
  · exact ⟨fun _ => no1_of hk hf, fun h => by omega, fun h => by omega⟩
  · exact ⟨fun _ => h.1 (by omega), fun _ => no2_of hk hf, fun h => by omega⟩
  · exact ⟨fun _ => h.1 (by omega), fun _ => h.2.1 (by omega), fun _ => one_of0 (h.1 (by omega)) (h.2.1 (by omega)) hf⟩
theorem tried_yes {o : OpT} {t : Nat} (hk : o.k ≠ 0) (h1 : 1 ≤ t) (h3 : t ≤ 3) (h : Tried o t) (hf : tellsB (gsO o t) o = true) : OneIs o (some (gsO o t)) := by
  have : t = 1 ∨ t = 2 ∨ t = 3 := by omega
  rcases this with rfl | rfl | rfl
  · exact one_of1 hk hf
  · exact one_of2 hk (h.1 (by omega)) hf
  · exact one_of3 (h.1 (by omega)) (h.2.1 (by omega)) hf
theorem tells_is {bs : List Int} {o : OpT} : tellsB bs o = decide (atE bs 0 = 0 ∧ atO bs 0 = ⟨o.k, o.n, o.m, bs.length⟩) := by
  unfold tellsB
  rw [decide_eq_decide]
  constructor
  · rintro ⟨h1, h2, h3, h4, h5⟩
    refine ⟨h1, ?_⟩
    rw [← h2, ← h3, ← h4, ← h5]
  · rintro ⟨h1, h2⟩
    rw [h2]
    exact ⟨h1, rfl, rfl, rfl, rfl⟩
def WritePost (B : Nat) (xs : List Int) (o : OpT) (w : World) (e : Ending) (w' : World) : Prop :=
  ∃ r v, (o.k ≠ 0 → OneIs o r) ∧ (o.k = 0 → r = none) ∧ e = .returned (.tuple #[v, .bool r.isSome]) ∧ OwnB B w' v ((r.map (xs ++ ·)).getD []) ∧ Below B w w'
set_option maxHeartbeats 8000000 in
theorem write_code (B : Nat) (u : Value) (xs : List Int) (o : OpT) (w : World) (hT : Tabs w) (hown : OwnB B w u xs) (hB : B ≤ w.heap.size) (hl : xs.length ≤ 1000000000000) :
    Calls Tryd.prog 28 #[u, .agg #[.int .i64 o.k, .int .i64 o.n, .int .i64 o.m, .int .i64 o.l]] w (WritePost B xs o w) := by
  unfold WritePost
  have B0 := Lib.hid (box_new w (.int .i64 o.k) (.int .i64 o.n) (.int .i64 o.m) (.int .i64 o.l))
  have K0 := Lib.hid (below_new w (.cells #[.int .i64 o.k, .int .i64 o.n, .int .i64 o.m, .int .i64 o.l] 25))
  have HT := Lib.hid hT
  have HO := Lib.hid hown
  clear hT hown
  by_cases hout : o.k ≤ 0 ∨ 27 ≤ o.k
  · have HN : Hid ((o.k ≠ 0 → OneIs o none)) := Lib.hid fun h => one_kind (by omega)
    go_enter Tryd.func28, Tryd.ntmps28
    go_upto_region 1 with fail
    generalize w.alloc (.cells #[.int .i64 o.k, .int .i64 o.n, .int .i64 o.m, .int .i64 o.l] 25) = w1 at *
    obtain ⟨⟨p0, p1, p2, p3⟩, pf, _⟩ := B0.out
    by_cases h0 : o.k ≤ 0
    · have d1 : decide (o.k ≤ 0) = true := by simpa using h0
      clear hout h0
      go_wp2_with fail
      go_ret2
      exact ⟨none, _, HN.out, fun _ => rfl, rfl, World.ownsRow_nil _ _ _ _, K0.out.mono hB⟩
    · have d1 : decide (o.k ≤ 0) = false := by simpa using h0
      have d2 : decide (27 ≤ o.k) = true := by simp; omega
      clear hout h0
      go_wp2_with fail
      go_ret2
      exact ⟨none, _, HN.out, fun _ => rfl, rfl, World.ownsRow_nil _ _ _ _, K0.out.mono hB⟩
  · have hk0 : 0 < o.k := by omega
    have hk1 : o.k < 27 := by omega
    have d1 : decide (o.k ≤ 0) = false := by simp; omega
    have d2 : decide (27 ≤ o.k) = false := by simp; omega
    have HK : Hid (0 < o.k ∧ o.k < 27 ∧ o.k ≠ 0) := Lib.hid ⟨hk0, hk1, by omega⟩
    clear hout hk0 hk1
    go_enter Tryd.func28, Tryd.ntmps28
    go_upto_region 1 with fail
    generalize w.alloc (.cells #[.int .i64 o.k, .int .i64 o.n, .int .i64 o.m, .int .i64 o.l] 25) = w1 at *
    obtain ⟨⟨p0, p1, p2, p3⟩, pf, _⟩ := B0.out
    go_upto_region 3 with fail
    clear p0 p1 p2 p3 pf d1 d2
    go_wp2_with fail
    go_loopw [6] (fun s6 wx => ∃ (t : Nat) (l : Int), 1 ≤ t ∧ t ≤ 4 ∧ s6 = .int .i64 t ∧ Hid (Tried o t) ∧ Hid (Box w.heap.size (.int .i64 o.k) (.int .i64 o.n) (.int .i64 o.m) (.int .i64 l) wx) ∧ Hid (Below w.heap.size w wx)) (fun s6 _ => 4 - (RowKit.intOf s6).toNat)
    case atStart => exact ⟨1, o.l, by omega, by omega, rfl, Lib.hid (tried_one o), B0, K0⟩
    case round =>
      clear B0 K0
      obtain ⟨t, l, ht1, ht2, rfl, HTr, HB, HK0⟩ := hrel
      by_cases hlt : t ≤ 3
      · have d1 : decide ((t : Int) ≤ 3) = true := by simp; omega
        have d2 : decide (t ≤ 3) = true := by simp; omega
        have HG := Lib.hid (guess_any ⟨o.k, o.n, o.m, l⟩ t wr (HT.out.next HK0.out) HK.out.1 HK.out.2.1 ht1 hlt)
        change Hid (Calls Tryd.prog 33 #[.agg #[.int .i64 o.k, .int .i64 o.n, .int .i64 o.m, .int .i64 l], .int .i64 t] wr (GuessR (triO o t).1 (triO o t).2.1 (triO o t).2.2 wr)) at HG
        have HS : Hid (∀ (p : Nat) (w' : World), Tri p (.int .u8 (triO o t).1) (.int .u8 (triO o t).2.1) (.int .u8 (triO o t).2.2) w' → Below w.heap.size w w' → Bts (· = p) w' (.slice (some ⟨p, 0, none⟩) t 3) (gsO o t) ∧ Calls Tryd.prog 12 #[.slice (some ⟨p, 0, none⟩) t 3, .int .i64 0] w' (AtPost (gsO o t) 0 w')) := Lib.hid fun p w' h hb =>
          have hbt := tri_bts h hlt
          ⟨hbt, at_code _ _ 0 w' (HT.out.next hb) hbt (gsO_bytes o t) (by rw [gsO_len hlt]; omega) (by omega)⟩
        have HTE : Hid (tellsB (gsO o t) o = decide (atE (gsO o t) 0 = 0 ∧ atO (gsO o t) 0 = ⟨o.k, o.n, o.m, t⟩)) := Lib.hid (by rw [tells_is, gsO_len hlt])
        have HGL : Hid ((gsO o t).length = t) := Lib.hid (gsO_len hlt)
        have HNx : Hid (tellsB (gsO o t) o = false → Tried o (t + 1)) := Lib.hid fun h => tried_next HK.out.2.2 ht1 hlt HTr.out h
        have HYs : Hid (tellsB (gsO o t) o = true → OneIs o (some (gsO o t))) := Lib.hid fun h => tried_yes HK.out.2.2 ht1 hlt HTr.out h
        generalize (triO o t).1 = a at *
        generalize (triO o t).2.1 = b at *
        generalize (triO o t).2.2 = c at *
        generalize gsO o t = gs at *
        unfold GuessR at HG
        unfold AtPost at HS
        generalize atE gs 0 = er at *
        generalize atO gs 0 = x at *
        generalize tellsB gs o = tb at *
        clear HTr
        obtain ⟨⟨p0, p1, p2, p3⟩, pf, plt⟩ := HB.out
        go_upto_region 7 with (go_at_call 33; refine HG.out.mono ?_; rintro e w2 ⟨rfl, hb2⟩)
        have R3 := Lib.hid (tri_new w2 (.int .u8 a) (.int .u8 b) (.int .u8 c))
        have B3 := Lib.hid ((HB.out.next hb2).next (below_new w2 (.cells #[.int .u8 a, .int .u8 b, .int .u8 c] 59)))
        have K3 := Lib.hid ((HK0.out.trans (hb2.mono HK0.out.size)).alloc (Nat.le_trans HK0.out.size hb2.size) (.cells #[.int .u8 a, .int .u8 b, .int .u8 c] 59))
        have hg7 : w.heap.size < w2.heap.size := Nat.lt_of_lt_of_le HB.out.2.2 hb2.size
        generalize w2.alloc (.cells #[.int .u8 a, .int .u8 b, .int .u8 c] 59) = w3 at *
        generalize w2.heap.size = g7 at *
        clear hb2 HG HB HK0 p0 p1 p2 p3 pf plt
        obtain ⟨⟨p0, p1, p2, p3⟩, pf, _⟩ := B3.out
        have B4 := Lib.hid (B3.out.put3 (.int .i64 t))
        have R4 := Lib.hid (R3.out.other (g := w.heap.size) (by omega) 3 (.int .i64 t))
        have K4 := Lib.hid (K3.out.setCell (p := ⟨w.heap.size, 3, none⟩) (Nat.le_refl _) (.int .i64 t))
        go_upto_region 8 with fail
        generalize w3.setCell ⟨w.heap.size, 3, none⟩ (.int .i64 t) = w4 at *
        clear B3 R3 K3 p0 p1 p2 p3 pf
        have HA := Lib.hid (HS.out _ _ R4.out K4.out).2
        have t0 : (0 : Int) ≤ (t : Int) := by omega
        have t3 : (t : Int) ≤ 3 := by omega
        go_upto_region 9 with (go_at_call 12; refine HA.out.mono ?_; rintro e w5 ⟨rfl, hb5⟩)
        have B8 := Lib.hid (box_new w5 (.int .i64 x.k) (.int .i64 x.n) (.int .i64 x.m) (.int .i64 x.l))
        have B6 := Lib.hid ((B4.out.next hb5).next (below_new w5 (.cells #[.int .i64 x.k, .int .i64 x.n, .int .i64 x.m, .int .i64 x.l] 25)))
        have R6 := Lib.hid ((R4.out.next hb5).next (below_new w5 (.cells #[.int .i64 x.k, .int .i64 x.n, .int .i64 x.m, .int .i64 x.l] 25)))
        have K6 := Lib.hid ((K4.out.trans (hb5.mono K4.out.size)).alloc (Nat.le_trans K4.out.size hb5.size) (.cells #[.int .i64 x.k, .int .i64 x.n, .int .i64 x.m, .int .i64 x.l] 25))
        generalize w5.alloc (.cells #[.int .i64 x.k, .int .i64 x.n, .int .i64 x.m, .int .i64 x.l] 25) = w6 at *
        generalize w5.heap.size = g8 at *
        clear hb5 HA B4 R4 K4
        obtain ⟨⟨p0, p1, p2, p3⟩, pf, _⟩ := B6.out
        obtain ⟨⟨q0, q1, q2, q3⟩, qf, _⟩ := B8.out
        have hgd := fun op x y xs ys w => guard_op op x y xs ys w
        have hq := fun w => eql_op x ⟨o.k, o.n, o.m, t⟩ w
        simp only at hq
        by_cases he : er = 0
        · have f1 : (er == 0) = true := by simpa using he
          by_cases hx : x = ⟨o.k, o.n, o.m, t⟩
          · rw [decide_eq_true hx] at hq
            have HY : Hid (OneIs o (some gs)) := Lib.hid (HYs.out (by rw [HTE.out, decide_eq_true (And.intro he hx)]))
            clear HYs HNx HTE hx he
            obtain ⟨i0, hi, hz0, hz1, hz2⟩ := info_parts Tryd.info5
            have OW := Lib.hid (OwnB.next HO.out K6.out)
            have hsrc : Hid (∀ j v, (gs.map (Value.int .u8))[j]? = some v → w6.cell? ((⟨g7, 0, none⟩ : Addr).add j) = some v) := Lib.hid fun j v hv => by
              obtain ⟨a', c', e1, _, h⟩ := (HS.out g7 w6 R6.out K6.out).1
              injection e1 with e1 _ _
              rcases h with h | ⟨b', off', e2, _, h⟩
              · rw [h] at hv; simp at hv
              · rw [e2] at e1
                injection e1 with e1
                injection e1 with e1 e3 _
                have := h j v hv
                rw [← e1, ← e3] at this
                rw [add_plain]
                exact this
            have hml : (gs.map (Value.int .u8)).length = t := by rw [List.length_map, HGL.out]
            obtain ⟨nB, hnB⟩ : ∃ n, xs.length = n := ⟨_, rfl⟩
            have HNB := Lib.hid hnB
            have hown := OW.out
            unfold OwnB at hown
            have hform : ∃ xa xc, u = .slice xa xs.length xc := own_form hown
            have hsz : B ≤ w6.heap.size := Nat.le_trans hB K6.out.size
            rw [hnB] at hown hl
            clear hnB HS
            go_wp2_with (at_builtin; refine wpList_append_own _ rfl _ _ 22 rfl B 5 i0 (.int .u8 0) 1 1 Tryd.underlying22 hi hz0 hz1 hz2 rfl (by decide) _ _ _ rfl hown ⟨g7, 0, none⟩ t 3 (gs.map (Value.int .u8)) rfl ?c0 ?c1 ?c2 ?c3 ?c4 ?c5 ?_)
            case c0 => omega
            case c1 => exact hsrc.out
            case c2 => intro u hu; obtain ⟨n, _, rfl⟩ := List.mem_map.1 hu; rfl
            case c3 => unfold maxLen; omega
            case c4 => omega
            case c5 => exact hsz
            intro v' w7 hown' hgrow _
            have hR := bytes_add (v' := v') (ys := gs) hsz OW.out (Below.refl B w6) (by rw [HNB.out, HGL.out]; exact hown') hgrow
            have O7 := Lib.hid hR.1
            have K7 := Lib.hid hR.2
            clear hown' hgrow hown hR
            go_wp2_with fail
            go_ret2
            exact ⟨some gs, v', fun _ => HY.out, fun h => absurd h HK.out.2.2, rfl, O7.out, (K6.out.mono hB).trans K7.out⟩
          · rw [decide_eq_false hx] at hq
            have HN : Hid (Tried o (t + 1)) := Lib.hid (HNx.out (by rw [HTE.out, decide_eq_false (fun h => hx h.2)]))
            clear HYs HNx HTE hx he
            go_wp2_with fail
            exact ⟨⟨t + 1, t, by omega, by omega, by go_num, HN, B6, K6⟩, by simp [RowKit.intOf]; omega⟩
        · have f1 : (er == 0) = false := by simpa using he
          have HN : Hid (Tried o (t + 1)) := Lib.hid (HNx.out (by rw [HTE.out, decide_eq_false (fun h => he h.1)]))
          clear HYs HNx HTE he
          go_wp2_with fail
          exact ⟨⟨t + 1, t, by omega, by omega, by go_num, HN, B6, K6⟩, by simp [RowKit.intOf]; omega⟩
      · have ht4 : t = 4 := by omega
        have HN : Hid (OneIs o none) := Lib.hid (HTr.out.2.2 (by omega))
        have d1 : decide ((t : Int) ≤ 3) = false := by simp; omega
        have d2 : decide (t ≤ 3) = false := by simp; omega
        clear hlt ht4 ht1 ht2 HTr
        go_wp2_with fail
        go_ret2
        exact ⟨none, _, fun _ => HN.out, fun _ => rfl, rfl, World.ownsRow_nil _ _ _ _, HK0.out.mono hB⟩
end Go.Proofs.YtmcikjihkgplaaaDoor
