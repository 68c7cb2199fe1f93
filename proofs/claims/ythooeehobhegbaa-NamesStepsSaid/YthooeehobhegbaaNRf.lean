/- The chapter's own rows of ids, and what its functions Find, Bind, Free, Slots do. No condition but those that each statement names. -/
import Derived.Test.YthooeehobhegbaaNBp
namespace Go.Proofs.Ythooeehobhegbaa
set_option maxRecDepth 1000000
open Go.ChangeShapes Go.WideShapes Go.ChangeAt Go.RowKit

/-- The n numbers I, from the begin of the block b on, which is of the kind N; they may be written. -/
structure XAt (N : Nat → Prop) (w : World) (b n : Nat) (I : Nat → Int) : Prop where
  kind : N b
  row : RowV w b n I
  lt : b < w.heap.size
/-- The first n numbers of I. -/
def idsL (I : Nat → Int) (n : Nat) : List Int := (List.range n).map I
theorem idsL_len (I : Nat → Int) (n : Nat) : (idsL I n).length = n := by simp [idsL]
theorem idsL_at {I : Nat → Int} {n k : Nat} (h : k < n) : (idsL I n)[k]? = some (I k) := by simp [idsL, List.getElem?_range h]
section
variable {N F : Nat → Prop} {w w' : World} {b n k : Nat} {I I' : Nat → Int}
theorem XAt.only (h : XAt N w b n I) (o : Only F w w') (hF : ∀ b, N b → ¬ F b) : XAt N w' b n I := ⟨h.kind, h.row.only o (hF b h.kind), by have := o.size; have := h.lt; omega⟩
theorem XAt.fresh (h : XAt N w b n I) (hb : Below w.heap.size w w') : XAt N w' b n I := ⟨h.kind, h.row.only (F := fun _ => False) (Only.of_below hb) id, by have := hb.size; have := h.lt; omega⟩
theorem XAt.ints (h : XAt N w b n I) (hk : n ≤ k) : Ints N w (.slice (some ⟨b, 0, none⟩) n k) (idsL I n) := by
  refine ⟨some ⟨b, 0, none⟩, k, by rw [List.length_map, idsL_len], by rw [List.length_map, idsL_len]; exact hk, .inr ⟨b, 0, rfl, h.kind, fun j u hu => ?_⟩⟩
  rw [List.getElem?_map] at hu
  by_cases hj : j < n
  · rw [idsL_at hj] at hu
    rw [Nat.zero_add, (h.row j hj).1, ← hu]; rfl
  · rw [List.getElem?_eq_none (by rw [idsL_len]; omega)] at hu; cases hu
theorem own_x {base : Nat} {v : Value} (h : w.ownsRow base 3 1 v (idsL I n).length ((idsL I n).map (Value.int .i64))) (hn : 0 < n) (hN : ∀ g, base ≤ g → N g) : ∃ g cap, v = .slice (some ⟨g, 0, none⟩) n cap ∧ n ≤ cap ∧ base ≤ g ∧ XAt N w g n I := by
  have hc := fun g => h.cells (g := g)
  have hl := h.lt
  rw [idsL_len] at h
  rcases h.2 with ⟨_, h0⟩ | ⟨g, cap, cur, rfl, hb, hg, hcap, _⟩
  · omega
  · refine ⟨g, cap, rfl, hcap, hb, hN g hb, fun j hj => ⟨?_, ?_⟩, (hl g rfl).2⟩
    · have := hc g rfl j (.int .i64 (I j)) (by rw [List.getElem?_map, idsL_at hj]; rfl)
      rwa [add_plain, Nat.zero_add] at this
    · unfold World.frozen?
      simp only [hg]
      simp
end
theorem BindIs.eq {n : Nat} {I I' J' : Nat → Int} {id t t' : Int} {s s' : Nat} (ok : IdsOk n I) (h : BindIs n I id s t I') (k : BindIs n I id s' t' J') : s = s' ∧ t = t' ∧ I' = J' := by
  rcases h with ⟨h1, rfl, rfl, rfl⟩ | ⟨h1, h2, h3, rfl, rfl⟩ | ⟨h1, h2, h3, rfl, rfl, rfl⟩ | ⟨h1, h2, h3, rfl, rfl⟩ <;>
  rcases k with ⟨k1, rfl, rfl, rfl⟩ | ⟨k1, k2, k3, rfl, rfl⟩ | ⟨k1, k2, k3, rfl, rfl, rfl⟩ | ⟨k1, k2, k3, rfl, rfl⟩
  · exact ⟨rfl, rfl, rfl⟩
  · omega
  · omega
  · omega
  · omega
  · exact ⟨h3.eq ok k3, rfl, rfl⟩
  · have := h3.eq ok k2; omega
  · have := h3.eq ok k2; omega
  · omega
  · have := h2.eq ok k3; omega
  · exact ⟨rfl, rfl, rfl⟩
  · exact absurd k3.2.2.1 (h3 _ (by have := k3.1; have := k3.2.1; omega))
  · omega
  · have := h2.eq ok k3; omega
  · exact absurd h3.2.2.1 (k3 _ (by have := h3.1; have := h3.2.1; omega))
  · obtain rfl := h3.eq k3
    exact ⟨rfl, rfl, rfl⟩
section
variable {N : Nat → Prop} {w w' : World} {b n k : Nat} {I I' : Nat → Int}
set_option maxHeartbeats 1000000 in
theorem rfind_any (id : Int) (s : Nat) (h : XAt N w b n I) (ok : IdsOk n I) (hn : n ≤ 16383) (hs : SlotIs n I id s) : Calls Try.prog 18 #[.slice (some ⟨b, 0, none⟩) n k, .int .i64 id] w (Told (.int .i64 s) w) := by
  have HR := Lib.hid h.row
  have HOk := Lib.hid ok
  have HS := Lib.hid hs
  clear h ok hs
  go_enter Try.func18, Try.ntmps18
  go_wp2_with fail
  go_loop [5] (fun s5 => ∃ i : Nat, s5 = .int .i64 i ∧ i ≤ n ∧ Hid (∀ j, j < i → ¬ (I j = id ∧ 0 < id))) (fun s5 => n - (intOf s5).toNat)
  case atStart => exact ⟨0, rfl, Nat.zero_le _, Lib.hid (fun j hj => by omega)⟩
  case round =>
    obtain ⟨i, rfl, hi, HA⟩ := hrel
    by_cases hlt : i < n
    · have hlt' : (i : Int) < n := by omega
      have ci := (HR.out i hlt).1
      by_cases h1 : I i = id
      · by_cases h2 : 0 < id
        · have HE : Hid (i + 1 = s) := by
            refine SlotIs.eq HOk.out ?_ HS.out
            exact .inl ⟨by omega, by omega, by omega, h1⟩
          rw [h1] at ci
          clear h1 HA
          go_wp2_with fail
          go_ret
          exact ⟨by rw [← HE.out]; rfl, rfl⟩
        · have HA2 : Hid (∀ j, j < i + 1 → ¬ (I j = id ∧ 0 < id)) := Lib.hid (fun j hj hh => h2 hh.2)
          rw [h1] at ci
          clear h1 HA
          go_wp2_with fail
          go_round
          case rel => exact ⟨i + 1, by go_num, by omega, HA2⟩
          case measure => simp [intOf]; omega
      · have HA2 : Hid (∀ j, j < i + 1 → ¬ (I j = id ∧ 0 < id)) := Lib.hid (fun j hj hh => by
          by_cases hji : j = i
          · rw [hji] at hh; exact h1 hh.1
          · exact HA.out j (by omega) hh)
        have hd : (I i == id) = false := by simpa using h1
        generalize I i = u at ci hd
        clear h1 HA
        go_wp2_with fail
        go_round
        case rel => exact ⟨i + 1, by go_num, by omega, HA2⟩
        case measure => simp [intOf]; omega
    · obtain rfl : i = n := by omega
      have hlt' : ¬ (i : Int) < i := by omega
      have HE : Hid (0 = s) := by
        refine SlotIs.eq HOk.out (.inr ⟨rfl, fun j hj he => ?_⟩) HS.out
        have h3 := HA.out j hj
        have h4 := (HOk.out.nn j hj).1
        omega
      clear HA
      go_wp2_with fail
      go_ret
      exact ⟨by rw [← HE.out]; rfl, rfl⟩
/-- What the chapter's Bind gives: a row, which may be a new one. -/
def RBPost (N : Nat → Prop) (n : Nat) (I' : Nat → Int) (s : Nat) (t : Int) (w : World) (e : Ending) (w' : World) : Prop :=
  ∃ b' k', e = .returned (.tuple #[.slice (some ⟨b', 0, none⟩) n k', .int .i64 s, .int .i64 t]) ∧ n ≤ k' ∧ XAt N w' b' n I' ∧ Below w.heap.size w w'
set_option maxHeartbeats 4000000 in
theorem rbind_none (id : Int) (s : Nat) (t : Int) (h : XAt N w b n I) (ok : IdsOk n I) (hn : n ≤ 16383) (hk : n ≤ k) (hN : ∀ g, w.heap.size ≤ g → N g) (h1 : 1 ≤ id) (h0 : SlotIs n I id 0) (hb : BindIs n I id s t I') :
    Calls Try.prog 11 #[.slice (some ⟨b, 0, none⟩) n k, .int .i64 id] w (RBPost N n I' s t w) := by
  have HFi : Hid (Calls Try.prog 18 #[.slice (some ⟨b, 0, none⟩) n k, .int .i64 id] w (Told (.int .i64 0) w)) := rfind_any id 0 h ok hn h0
  have HI := Lib.hid (h.ints hk)
  have HX := Lib.hid h
  have HN := Lib.hid hN
  have HLe : Hid (∀ i, LeastIs n I (i + 1) → i + 1 = s ∧ 0 = t ∧ upd I i id = I') := Lib.hid (fun i hl => by
    have := BindIs.eq ok (.inr (.inr (.inr ⟨h1, h0, hl, rfl, rfl⟩))) hb
    rwa [show i + 1 - 1 = i by omega] at this)
  have HFu : Hid ((∀ i, i < n → I i ≠ 0) → 0 = s ∧ 3 = t ∧ I = I') := Lib.hid (fun hf => BindIs.eq ok (.inr (.inr (.inl ⟨h1, h0, hf, rfl, rfl, rfl⟩))) hb)
  have hd : ¬ (id < 1) := by omega
  have HK := Lib.hid hk
  clear h ok hb h0 hk hN h1
  go_enter Try.func11, Try.ntmps11
  go_wp2_with fail
  refine HFi.out.mono ?_
  rintro e w1 ⟨rfl, rfl⟩
  go_wp2_with (at_builtin; refine append_ints (N := N) rfl _ _ rfl w.heap.size (.slice none 0 0) [] rfl (World.ownsRow_nil w w.heap.size 3 1) (.slice (some ⟨b, 0, none⟩) n k) (idsL I n) rfl HI.out ?a1 ?a2 ?_)
  case a1 => rw [idsL_len]; simp; omega
  case a2 => exact Nat.le_refl _
  intro v2 w2 o2 b2 _
  have HO2 : Hid (w2.ownsRow w.heap.size 3 1 v2 (idsL I n).length ((idsL I n).map (Value.int .i64))) := o2
  have HB2 := Lib.hid b2
  have HX2 := Lib.hid (HX.out.fresh b2)
  clear o2 b2 HI HFi
  go_wp2_with fail
  go_loop [8] (fun s8 => ∃ i : Nat, s8 = .int .i64 i ∧ i ≤ n ∧ Hid (∀ j, j < i → I j ≠ 0)) (fun s8 => n - (intOf s8).toNat)
  case atStart => exact ⟨0, rfl, Nat.zero_le _, Lib.hid (fun j hj => by omega)⟩
  case round =>
    obtain ⟨i, rfl, hi, HA⟩ := hrel
    by_cases hlt : i < n
    · have hlt' : (i : Int) < n := by omega
      have ci := (HX2.out.row i hlt).1
      by_cases h0 : I i = 0
      · obtain ⟨g, cap, rfl, hcap, hg, hx⟩ := own_x HO2.out (N := fun g => w.heap.size ≤ g ∧ N g) (by omega) (fun g hg => ⟨hg, HN.out g hg⟩)
        have HE := Lib.hid (HLe.out i ⟨by omega, by omega, h0, fun j hj => HA.out j (by omega)⟩)
        obtain ⟨cg, fg⟩ := hx.row i hlt
        have o3 := only_set w2 ⟨g, i, none⟩ (.int .i64 id)
        have HY : Hid (XAt N (w2.setCell ⟨g, i, none⟩ (.int .i64 id)) g n (upd I i id)) := ⟨HN.out g hg, hx.row.put hlt id (upd_at _ _ _) (fun j hj => upd_ne _ _ hj), by have := hx.lt; have := o3.size; omega⟩
        have HB3 : Hid (Below w.heap.size w (w2.setCell ⟨g, i, none⟩ (.int .i64 id))) := HB2.out.setCell (p := ⟨g, i, none⟩) hg _
        rw [h0] at ci cg
        clear h0 HA hx o3 hg
        go_wp2_with fail
        go_ret3
        obtain ⟨e1, e2, e3⟩ := HE.out
        exact ⟨g, cap, by rw [← e1, ← e2]; rfl, hcap, by rw [← e3]; exact HY.out, HB3.out⟩
      · have hd0 : (I i == 0) = false := by simpa using h0
        have HA2 : Hid (∀ j, j < i + 1 → I j ≠ 0) := Lib.hid (fun j hj => by
          by_cases hji : j = i
          · rw [hji]; exact h0
          · exact HA.out j (by omega))
        generalize I i = u at ci hd0
        clear h0 HA
        go_wp2_with fail
        go_round
        case rel => exact ⟨i + 1, by go_num, by omega, HA2⟩
        case measure => simp [intOf]; omega
    · obtain rfl : i = n := by omega
      have hlt' : ¬ (i : Int) < i := by omega
      have HE := Lib.hid (HFu.out HA.out)
      clear HA
      go_wp2_with fail
      go_ret3
      obtain ⟨e1, e2, e3⟩ := HE.out
      exact ⟨b, k, by rw [← e1, ← e2]; rfl, HK.out, by rw [← e3]; exact HX2.out, HB2.out⟩
set_option maxHeartbeats 2000000 in
theorem rbind_any (id : Int) (s : Nat) (t : Int) (h : XAt N w b n I) (ok : IdsOk n I) (hn : n ≤ 16383) (hk : n ≤ k) (hN : ∀ g, w.heap.size ≤ g → N g) (hb : BindIs n I id s t I') :
    Calls Try.prog 11 #[.slice (some ⟨b, 0, none⟩) n k, .int .i64 id] w (RBPost N n I' s t w) := by
  by_cases h1 : id < 1
  · obtain ⟨rfl, rfl, rfl⟩ := BindIs.eq ok (.inl ⟨h1, rfl, rfl, rfl⟩) hb
    have HX := Lib.hid h
    have HK := Lib.hid hk
    have hd : decide (id < 1) = true := decide_eq_true h1
    clear h ok hb hN hk h1
    go_enter Try.func11, Try.ntmps11
    go_wp2_with fail
    go_ret3
    exact ⟨b, k, rfl, HK.out, HX.out, Below.refl _ _⟩
  · obtain ⟨q, hq⟩ := slot_ex n I id
    by_cases h0 : q = 0
    · subst h0
      exact rbind_none id s t h ok hn hk hN (by omega) hq hb
    · obtain ⟨rfl, rfl, rfl⟩ := BindIs.eq ok (.inr (.inl ⟨by omega, by omega, hq, rfl, rfl⟩)) hb
      have HFi := Lib.hid (rfind_any (k := k) id q h ok hn hq)
      have HX := Lib.hid h
      have HK := Lib.hid hk
      have hz : (0 : Int) < (q : Int) := by omega
      clear h ok hb hN hk hq h0
      go_enter Try.func11, Try.ntmps11
      go_wp2_with fail
      refine HFi.out.mono ?_
      rintro e w1 ⟨rfl, rfl⟩
      go_wp2_with fail
      refine HFi.out.mono ?_
      rintro e w1 ⟨rfl, rfl⟩
      go_wp2_with fail
      go_ret3
      exact ⟨b, k, rfl, HK.out, HX.out, Below.refl _ _⟩
/-- What the chapter's Free gives. -/
def RFPost (N : Nat → Prop) (n : Nat) (I' : Nat → Int) (t : Int) (w : World) (e : Ending) (w' : World) : Prop :=
  ∃ b' k', e = .returned (.tuple #[.slice (some ⟨b', 0, none⟩) n k', .int .i64 t]) ∧ n ≤ k' ∧ XAt N w' b' n I' ∧ Below w.heap.size w w'
set_option maxHeartbeats 4000000 in
theorem rfree_any (q t : Int) (h : XAt N w b n I) (hn : n ≤ 16383) (hk : n ≤ k) (hN : ∀ g, w.heap.size ≤ g → N g) (hf : FreeIs n I [q] t I') :
    Calls Try.prog 13 #[.slice (some ⟨b, 0, none⟩) n k, .int .i64 q] w (RFPost N n I' t w) := by
  have HX := Lib.hid h
  have HK := Lib.hid hk
  by_cases h0 : idOf n I q = 0
  · have no : FreeIs n I [q] 4 I := .inr ⟨fun hh => hh.1 q (by simp) h0, rfl, rfl⟩
    obtain ⟨rfl, rfl⟩ := no.eq hf
    by_cases h1 : q < 1
    · clear h hk hN hf no h0
      go_enter Try.func13, Try.ntmps13
      go_wp2_with fail
      go_ret2
      exact ⟨b, k, rfl, HK.out, HX.out, Below.refl _ _⟩
    · by_cases h2 : (n : Int) < q
      · clear h hk hN hf no h0
        go_enter Try.func13, Try.ntmps13
        go_wp2_with fail
        go_ret2
        exact ⟨b, k, rfl, HK.out, HX.out, Below.refl _ _⟩
      · obtain ⟨i, rfl⟩ : ∃ i : Nat, q = (i : Int) + 1 := ⟨q.toNat - 1, by omega⟩
        have hin : i < n := by omega
        rw [idOf_at hin] at h0
        have ci := (h.row i hin).1
        rw [h0] at ci
        clear h hk hN hf no h0
        go_enter Try.func13, Try.ntmps13
        go_wp2_with fail
        go_ret2
        exact ⟨b, k, rfl, HK.out, HX.out, Below.refl _ _⟩
  · obtain ⟨i, rfl, hin, hi0⟩ := idOf_in h0
    obtain ⟨rfl, rfl⟩ := (free_one_is hin hi0).eq hf
    have HI := Lib.hid (h.ints hk)
    have HN := Lib.hid hN
    have ci := (h.row i hin).1
    have hd0 : (I i == 0) = false := by simpa using hi0
    have h1 : ¬ ((i : Int) + 1 < 1) := by omega
    have h2 : ¬ ((n : Int) < (i : Int) + 1) := by omega
    obtain ⟨u, hu⟩ : ∃ u, I i = u := ⟨_, rfl⟩
    have HU := Lib.hid hu
    rw [hu] at ci hd0
    clear h hk hN hf h0 hi0 hu
    go_enter Try.func13, Try.ntmps13
    go_wp2_with (at_builtin; refine append_ints (N := N) rfl _ _ rfl w.heap.size (.slice none 0 0) [] rfl (World.ownsRow_nil w w.heap.size 3 1) (.slice (some ⟨b, 0, none⟩) n k) (idsL I n) rfl HI.out ?a1 ?a2 ?_)
    case a1 => rw [idsL_len]; omega
    intro v2 w2 o2 b2 _
    obtain ⟨g, cap, rfl, hcap, hg, hx⟩ := own_x o2 (N := fun g => w.heap.size ≤ g ∧ N g) (by omega) (fun g hg => ⟨hg, HN.out g hg⟩)
    obtain ⟨cg, fg⟩ := hx.row i hin
    rw [HU.out] at cg
    have o3 := only_set w2 ⟨g, i, none⟩ (.int .i64 0)
    have HY : Hid (XAt N (w2.setCell ⟨g, i, none⟩ (.int .i64 0)) g n (upd I i 0)) := ⟨HN.out g hg, hx.row.put hin 0 (upd_at _ _ _) (fun j hj => upd_ne _ _ hj), by have := hx.lt; have := o3.size; omega⟩
    have HB3 : Hid (Below w.heap.size w (w2.setCell ⟨g, i, none⟩ (.int .i64 0))) := b2.setCell (p := ⟨g, i, none⟩) hg _
    clear o2 b2 hx o3 hg
    go_wp2_with fail
    go_ret2
    exact ⟨g, cap, rfl, hcap, HY.out, HB3.out⟩
set_option maxHeartbeats 4000000 in
theorem rslots_any (h : XAt N w b n I) (hn : n ≤ 16383) : Calls Try.prog 15 #[.slice (some ⟨b, 0, none⟩) n k] w (GaveN (slotsN I n) w) := by
  obtain ⟨i0, hi0, hz0, hz1, hz2⟩ := info_parts Try.info3
  have HX := Lib.hid h
  clear h
  go_enter Try.func15, Try.ntmps15
  go_wp2_with fail
  go_loopw [3, 4] (fun s3 s4 wr => ∃ i : Nat, i ≤ n ∧ s4 = .int .i64 i ∧ Hid (wr.ownsRow w.heap.size 3 1 s3 (slotsN I i).length (valsN (slotsN I i))) ∧ Hid (Below w.heap.size w wr)) (fun _ s4 _ => n - (intOf s4).toNat)
  case atStart => exact ⟨0, Nat.zero_le _, rfl, World.ownsRow_nil w w.heap.size 3 1, Below.refl _ _⟩
  case round =>
    obtain ⟨i, hi, rfl, HO, HB⟩ := hrel
    have hsz : w.heap.size ≤ wr.heap.size := HB.out.size
    by_cases hlt : i < n
    · have hlt2 : (i : Int) < n := by omega
      have HS : Hid (slotsN I (i + 1) = slotsN I i ++ if I i = 0 then [] else [i + 1]) := rfl
      have HL : Hid ((slotsN I i).length ≤ i) := by show _ ≤ _; rw [slotsN_len]; exact cntI_le I i
      have ci := ((HX.out.fresh HB.out).row i hlt).1
      by_cases h0 : I i = 0
      · have HS2 : Hid (slotsN I (i + 1) = slotsN I i) := by show _ = _; rw [HS.out, if_pos h0, List.append_nil]
        rw [h0] at ci
        clear HS h0
        go_wp2_with fail
        go_roundw
        case rel => exact ⟨i + 1, by omega, by go_num, by rw [HS2.out]; exact HO, HB⟩
        case measure => simp [intOf]; omega
      · have hd : (I i != 0) = true := by simp [h0]
        have HS2 : Hid (slotsN I (i + 1) = slotsN I i ++ [i + 1]) := by show _ = _; rw [HS.out, if_neg h0]
        generalize I i = u at ci hd
        clear HS h0
        have hll := HL.out
        have O2 : Hid (wr.ownsRow w.heap.size 3 1 u3 (slotsN I i).length (valsN (slotsN I i))) := HO
        go_wp2_with (at_builtin; refine wpList_append_own _ rfl _ _ 23 rfl w.heap.size 3 i0 (.int .i64 0) 1 8 Try.underlying23 hi0 hz0 hz1 hz2 rfl (by decide) _ _ _ rfl (O2.out.alloc _) ⟨wr.heap.size, 0, none⟩ 1 1 [.int .i64 ((i : Int) + 1)] rfl rfl ?c1 ?c2 ?c3 ?c4 ?c5 ?_)
        case c1 => intro j u hu; match j, hu with
          | 0, hu => simp at hu; subst hu; rw [add_plain, World.cell?_alloc_at _ _ _ _ rfl]; rfl
          | j + 1, hu => simp at hu
        case c2 => intro u hu; simp at hu; subst hu; rfl
        case c3 => unfold maxLen; omega
        case c4 => omega
        case c5 => simp; omega
        intro v' w3 hown' hgrow _
        have B3 : Hid (Below w.heap.size w w3) := HB.out.trans (((Below.refl _ _).alloc (by omega) _).grown hgrow (by simp; omega) (fun j hj => (O2.out.lt j hj).1))
        have O3 : Hid (w3.ownsRow w.heap.size 3 1 v' (slotsN I (i + 1)).length (valsN (slotsN I (i + 1)))) := by
          show w3.ownsRow _ _ _ _ _ _
          rw [HS2.out, List.length_append, valsN, List.map_append]; exact hown'
        clear hown' hgrow
        go_wp2
        go_roundw
        case rel => exact ⟨i + 1, by omega, by go_num, O3, B3⟩
        case measure => simp [intOf]; omega
    · obtain rfl : i = n := by omega
      have hlt2 : ¬ (i : Int) < i := by omega
      go_wp2_with fail
      go_ret
      exact gave_form HO.out HB.out
end
end Go.Proofs.Ythooeehobhegbaa
