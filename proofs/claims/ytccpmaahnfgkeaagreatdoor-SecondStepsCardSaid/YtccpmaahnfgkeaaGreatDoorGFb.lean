/- What the chapter's functions in and Ids tell. -/
import Derived.Test.YtccpmaahnfgkeaaGreatDoorGFa
import Derived.Maps.AppendAt
import Derived.Deep.LoopGhost
namespace Go.Proofs.YtccpmaahnfgkeaaGreatDoor
set_option maxRecDepth 1000000
open Go.ChangeShapes Go.WideShapes Go.ChangeAt Go.RowKit
open Wd (Ob okO encO refsO ObjAt In64 I64)

theorem ints_cell {N : Nat → Prop} {w : World} {v : Value} {xs : List Int} (h : Ints N w v xs) {k : Nat} (hk : k < xs.length) : ∃ g off c, v = .slice (some ⟨g, off, none⟩) xs.length c ∧ w.cell? ⟨g, off + k, none⟩ = some (.int .i64 (xs.getD k 0)) := by
  obtain ⟨g, off, c', he, _, _, _, hc⟩ := Vals.at_ (k := k) h (by rw [List.length_map]; exact hk)
  rw [List.length_map] at he
  refine ⟨g, off, c', he, ?_⟩
  rw [hc, List.getElem_map, List.getD, List.getElem?_eq_getElem hk]; rfl
theorem ints_form {N : Nat → Prop} {w : World} {v : Value} {xs : List Int} (h : Ints N w v xs) : ∃ a c, v = .slice a xs.length c := by
  obtain ⟨a, c, e, _⟩ := h
  rw [List.length_map] at e
  exact ⟨a, c, e⟩
theorem in_any {N : Nat → Prop} (v : Value) (xs : List Int) (x : Int) (w : World) (h : Ints N w v xs) (hl : xs.length ≤ 9000000000000000000) :
    Calls Tryz.prog 45 #[v, .int .i64 x] w fun e w' => e = .returned (.bool (decide (x ∈ xs))) ∧ w = w' := by
  have HV := Lib.hid h
  obtain ⟨a, c, rfl⟩ := ints_form h
  clear h
  go_enter Tryz.func45, Tryz.ntmps45
  go_wp2
  go_loop [5] (fun s => ∃ k : Nat, k ≤ xs.length ∧ s = .int .i64 k ∧ Hid (∀ j, j < k → xs.getD j 0 ≠ x)) (fun s => xs.length - (RowKit.intOf s).toNat)
  case atStart => exact ⟨0, Nat.zero_le _, rfl, Lib.hid (fun j hj => by omega)⟩
  case round =>
    obtain ⟨k, hk, rfl, HA⟩ := hrel
    by_cases hlt : k < xs.length
    · obtain ⟨g, off, c', he, h0⟩ := ints_cell HV.out hlt
      injection he with e1 _ e3
      subst e1 e3
      by_cases hx2 : xs.getD k 0 = x
      · have HF : Hid (decide (x ∈ xs) = true) := Lib.hid (decide_eq_true (by
          rw [← hx2, List.getD, List.getElem?_eq_getElem hlt]
          exact List.getElem_mem hlt))
        rw [hx2] at h0
        clear hx2
        go_wp2
        go_ret
        exact ⟨by rw [HF.out]; rfl, rfl⟩
      · have HN : Hid (∀ j, j < k + 1 → xs.getD j 0 ≠ x) := Lib.hid (fun j hjk => if e : j = k then by subst e; exact hx2 else HA.out j (by omega))
        generalize xs.getD k 0 = y at h0 hx2
        have hy : (y == x) = false := by simpa using hx2
        go_wp2
        go_round
        case rel => exact ⟨k + 1, by omega, by go_num, HN⟩
        case measure => simp [RowKit.intOf]; omega
    · have HF : Hid (decide (x ∈ xs) = false) := Lib.hid (decide_eq_false fun hm => by
        obtain ⟨j, hj, he⟩ := List.mem_iff_getElem.1 hm
        refine HA.out j (by omega) ?_
        rw [List.getD, List.getElem?_eq_getElem hj]; exact he)
      go_wp2
      go_ret
      exact ⟨by rw [HF.out]; rfl, rfl⟩

def GaveIds (xs : List Int) (w : World) (e : Ending) (w' : World) : Prop := ∃ v, e = .returned v ∧ Ints (w.heap.size ≤ ·) w' v xs ∧ Below w.heap.size w w'
theorem own_kept {w w' : World} {base n s : Nat} {e : TypeId} {v : Value} {xs : List Value} (h : w.ownsRow base e s v n xs) (b : Below w.heap.size w w') : w'.ownsRow base e s v n xs := by
  refine ⟨h.1, ?_⟩
  rcases h.2 with hn | ⟨g, cap, cur, rfl, hb, hgg, rest⟩
  · exact .inl hn
  · refine .inr ⟨g, cap, cur, rfl, hb, ?_, rest⟩
    rw [b.block g (h.lt g rfl).2]
    exact hgg
set_option maxHeartbeats 1000000 in
theorem ids6_any {N : Nat → Prop} (v : Value) (n m : Nat) (L : List RE) (w : World) (h : SpV N w v L) (hl : L.length ≤ 1000000) :
    Calls Tryz.prog 22 #[.agg #[v, .int .i64 n, .int .i64 m]] w (GaveIds (idsE (entsOf L)) w) := by
  obtain ⟨i3, hi3, hz0, hz1, hz2⟩ := info_parts Wd.Tryz.info3
  have BW : Below w.heap.size w (w.alloc (.cells #[v, .int .i64 n, .int .i64 m] 32)) := (Below.refl _ _).alloc (Nat.le_refl _) _
  have HV := Lib.hid (h.fresh BW)
  have HB := Lib.hid BW
  obtain ⟨a, c, rfl⟩ := h.form
  have hx : (w.alloc (.cells #[.slice a L.length c, .int .i64 n, .int .i64 m] 32)).cell? ⟨w.heap.size, 0, none⟩ = some (.slice a L.length c) := by rw [World.cell?_alloc_at _ _ _ _ rfl]; rfl
  obtain ⟨p, hp⟩ : ∃ p, w.heap.size = p := ⟨_, rfl⟩
  have HS : Hid (p < (w.alloc (.cells #[.slice a L.length c, .int .i64 n, .int .i64 m] 32)).heap.size) := Lib.hid (by rw [World.size_alloc]; omega)
  rw [hp] at hx
  have HP := Lib.hid hp
  have HX := Lib.hid hx
  clear h BW
  go_enter Tryz.func22, Tryz.ntmps22
  go_wp2
  clear hp hx
  generalize w.alloc (.cells #[.slice a L.length c, .int .i64 n, .int .i64 m] 32) = w0 at HV HX HB HS ⊢
  have HI := Lib.hid (And.intro hi3 (And.intro hz0 (And.intro hz1 hz2)))
  clear hi3 hz0 hz1 hz2
  go_loopg [3, 4] L.length (fun g s3 s4 wr => ∃ (u : Value) (k : Nat), u = s3 ∧ s4 = .int .i64 k ∧ k ≤ L.length ∧ L.length - k ≤ g ∧ Hid (wr.ownsRow w0.heap.size 3 1 u k (((idsE (entsOf L)).take k).map (Value.int .i64))) ∧ Hid (Below w0.heap.size w0 wr))
  case atStart => exact ⟨_, 0, rfl, rfl, Nat.zero_le _, by omega, Lib.hid (World.ownsRow_nil _ _ _ _), Lib.hid (Below.refl _ _)⟩
  case round =>
    obtain ⟨u, k, rfl, rfl, hk, hg, OW, BL⟩ := hrel
    have hx : wr.cell? ⟨p, 0, none⟩ = some (.slice a L.length c) := (BL.out.cell (p := ⟨p, 0, none⟩) HS.out).trans HX.out
    by_cases hlt : k < L.length
    · obtain ⟨b, off, c', he, _, hr⟩ := (HV.out.fresh BL.out).at_ k hlt
      injection he with e1 e2 e3
      subst e1 e3
      have h0 := hr.c0
      clear hr e2
      obtain ⟨x, hxx⟩ : ∃ x, (L[k].1.id : Int) = x := ⟨_, rfl⟩
      have HXX := Lib.hid hxx
      rw [hxx] at h0
      obtain ⟨hi3, hz0, hz1, hz2⟩ := HI.out
      clear hxx
      go_wp2_with (at_builtin; refine wpList_append_own _ rfl _ _ 23 rfl w0.heap.size 3 i3 (.int .i64 0) 1 8 Tryz.underlying23 hi3 hz0 hz1 hz2 rfl (by decide) _ _ _ rfl (OW.out.alloc _) ⟨wr.heap.size, 0, none⟩ 1 1 [.int .i64 x] rfl rfl (cell_one_new _ _ _) ?c2 ?c3 ?c4 ?c5 ?_)
      case c2 => intro u hu; simp at hu; subst hu; rfl
      case c3 => unfold maxLen; omega
      case c4 => omega
      case c5 => simp; have := BL.out.size; omega
      intro v' w3 hown hgrow _
      have B3 : Hid (Below w0.heap.size w0 w3) := Lib.hid ((BL.out.alloc BL.out.size _).grown hgrow (by simp; have := BL.out.size; omega) (fun j hj => (OW.out.lt j hj).1))
      have O3 : Hid (w3.ownsRow w0.heap.size 3 1 v' (k + 1) (((idsE (entsOf L)).take (k + 1)).map (Value.int .i64))) := Lib.hid (by
        have e : (idsE (entsOf L)).take (k + 1) = (idsE (entsOf L)).take k ++ [x] := by
          have hk2 : k < (idsE (entsOf L)).length := by simp [idsE, entsOf]; exact hlt
          rw [List.take_succ_eq_append_getElem hk2, ← HXX.out]
          simp [idsE, entsOf]
        rw [e, List.map_append]
        first | exact hown | (rw [List.map_take]; exact hown))
      clear hown hgrow hi3 hz0 hz1 hz2
      go_wp2
      go_roundg (L.length - (k + 1))
      case measure => omega
      case rel => exact ⟨v', k + 1, rfl, by go_num, by omega, Nat.le_refl _, O3, B3⟩
    · obtain rfl : k = L.length := by omega
      have HR : Hid (Ints (w.heap.size ≤ ·) wr u (idsE (entsOf L))) := Lib.hid (by
        have ho := OW.out
        have e : (idsE (entsOf L)).length = L.length := by simp [idsE, entsOf]
        rw [← e, List.take_length] at ho
        refine Vals.kind (Vals.of_own (base := w0.heap.size) (e := 3) (by rw [List.length_map]; exact ho)) (fun b _ hN => ?_)
        have := HS.out
        have := HP.out
        omega)
      have BR : Hid (Below w.heap.size w wr) := Lib.hid (HB.out.trans (BL.out.mono HB.out.size))
      go_wp2
      go_ret
      exact ⟨_, rfl, HR.out, BR.out⟩
end Go.Proofs.YtccpmaahnfgkeaaGreatDoor
