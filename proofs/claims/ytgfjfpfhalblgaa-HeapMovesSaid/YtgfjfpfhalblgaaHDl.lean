/- What slices.DeleteFunc does to a row of numbers of one's own, with a predicate that only reads; the predicate and the comparison of package heap. -/
import Derived.Test.YtgfjfpfhalblgaaHFn
import Derived.Test.YtgfjfpfhalblgaaHSa
namespace Go.Proofs.Ytgfjfpfhalblgaa
set_option maxRecDepth 1000000
open Go.ChangeShapes Go.WideShapes Go.ChangeAt Go.RowKit

/-- The numbers l lie at block g, from its begin on; they may be written. -/
def RowIs (w : World) (g : Nat) (l : List Nat) : Prop := ∀ j, j < l.length → w.cell? ⟨g, j, none⟩ = some (.int .i64 (l.getD j 0 : Nat)) ∧ w.frozen? ⟨g, j, none⟩ = false
/-- The slice that DeleteFunc tells: what stays. -/
def DelPost (g : Nat) (l : List Nat) (p : Nat → Bool) (cap : Nat) (w : World) (e : Ending) (w' : World) : Prop :=
  e = .returned (.slice (some ⟨g, 0, none⟩) (l.filter fun x => !p x).length cap) ∧ RowIs w' g (l.filter fun x => !p x) ∧ Only (· = g) w w'
theorem zero3 : ∀ w, (zeroValue 3).run Try.prog w = .ok (.int .i64 0) w := fun w => by
  obtain ⟨i0, hi, hz0, hz1, hz2⟩ := info_parts Try.info3
  simp [zeroValue, typeInfo, hi, hz0]
/-- In the loop: the first i are what stays of the first j; from j on all is as it was. -/
def DelInv (g : Nat) (l : List Nat) (p : Nat → Bool) (i j : Nat) (w wr : World) : Prop :=
  i = ((l.take j).filter fun x => !p x).length ∧ i < j ∧ (∀ q, q < i → wr.cell? ⟨g, q, none⟩ = some (.int .i64 (((l.take j).filter fun x => !p x).getD q 0 : Nat))) ∧ (∀ q, j ≤ q → q < l.length → wr.cell? ⟨g, q, none⟩ = some (.int .i64 (l.getD q 0 : Nat))) ∧
    (∀ q, q < l.length → (wr.cell? ⟨g, q, none⟩).isSome = true ∧ wr.frozen? ⟨g, q, none⟩ = false) ∧ Only (· = g) w wr
theorem only_setCellsD {w0 w : World} {g i : Nat} {vs : List Value} (h : Only (· = g) w0 w) : Only (· = g) w0 (w.setCells g i vs) := Only.setCells (F := (· = g)) g (.inl rfl) vs i w h
theorem filter_snoc {l : List Nat} {p : Nat → Bool} {j : Nat} (h : j < l.length) : ((l.take (j + 1)).filter fun x => !p x) = ((l.take j).filter fun x => !p x) ++ if p (l.getD j 0) = true then [] else [l.getD j 0] := by
  rw [List.take_succ_eq_append_getElem h, List.filter_append]
  congr 1
  have e : l.getD j 0 = l[j] := by rw [List.getD, List.getElem?_eq_getElem h]; rfl
  rw [e]
  cases hp : p l[j] <;> simp [hp]
set_option maxHeartbeats 4000000 in
theorem delete_any (gf : Nat) (lb : Array Value) (eg : ∀ args w, (callFunc gf args).run Try.prog w = .ok (.enter gf args) w) (p : Nat → Bool) (g cap : Nat) (l : List Nat) (w : World) (hr : RowIs w g l) (hl : l.length ≤ 3000000000000) (hc : l.length ≤ cap)
    (hp : ∀ w', Only (· = g) w w' → ∀ x ∈ l, Calls Try.prog gf (#[.int .i64 (x : Nat)] ++ lb) w' fun e w'' => e = .returned (.bool (p x)) ∧ w' = w'') :
    Calls Try.prog 31 #[.slice (some ⟨g, 0, none⟩) l.length cap, .func (.func gf) #[] lb] w (DelPost g l p cap w) := by
  have hI : Ints (fun _ => True) w (.slice (some ⟨g, 0, none⟩) l.length cap) (l.map fun (x : Nat) => (x : Int)) := by
    refine ⟨some ⟨g, 0, none⟩, cap, by simp, by simpa using hc, .inr ⟨g, 0, rfl, trivial, fun j u hu => ?_⟩⟩
    rw [List.map_map, List.getElem?_map] at hu
    by_cases hj : j < l.length
    · rw [List.getElem?_eq_getElem hj] at hu
      simp at hu
      rw [Nat.zero_add, (hr j hj).1, ← hu, List.getD, List.getElem?_eq_getElem hj]; rfl
    · rw [List.getElem?_eq_none (by omega)] at hu; cases hu
  have HI := Lib.hid (index_any gf lb eg (fun x => p x.toNat) _ _ w hI (by simp; omega) (fun x hx => by
    obtain ⟨y, hy, rfl⟩ := List.mem_map.1 hx
    simpa using hp w (Only.refl _ _) y hy))
  have HP := Lib.hid hp
  have HR := Lib.hid hr
  have memD : ∀ j, j < l.length → l.getD j 0 ∈ l := fun j hj => by rw [List.getD, List.getElem?_eq_getElem hj]; exact List.getElem_mem hj
  have MD := Lib.hid memD
  have gm : ∀ j, j < l.length → (l.map fun (x : Nat) => (x : Int)).getD j 0 = ((l.getD j 0 : Nat) : Int) := fun j hj => by simp [List.getD, List.getElem?_map, List.getElem?_eq_getElem hj]
  have GM := Lib.hid gm
  have HLM : Hid ((l.map fun (x : Nat) => (x : Int)).length = l.length) := List.length_map _
  clear hI hp hr memD gm
  generalize (l.map fun (x : Nat) => (x : Int)) = lm at *
  go_enter Try.func31, Try.ntmps31
  go_wp2_with fail
  refine HI.out.mono ?_
  rintro e w1 ⟨r, rfl, hri, rfl⟩
  rcases hri with ⟨rfl, hall⟩ | ⟨k, hk, rfl, ht, hall⟩
  · have hfil : Hid ((l.filter fun x => !p x) = l) := by
      show _ = _
      rw [List.filter_eq_self]
      intro x hx
      obtain ⟨j, hj, rfl⟩ := List.mem_iff_getElem.1 hx
      have := hall j (by rw [HLM.out]; exact hj)
      simp only [GM.out j hj, Int.toNat_natCast] at this
      rw [List.getD, List.getElem?_eq_getElem hj] at this
      simp at this
      simp [this]
    clear hall
    go_wp2
    go_ret
    exact ⟨by rw [hfil.out]; rfl, by rw [hfil.out]; exact HR.out, Only.refl _ _⟩
  · rw [HLM.out] at hk
    have hall' : ∀ j, j < k → p (l.getD j 0) = false := fun j hj => by
      have := hall j hj
      simpa only [GM.out j (by omega), Int.toNat_natCast] using this
    have ht' : p (l.getD k 0) = true := by simpa only [GM.out k hk, Int.toNat_natCast] using ht
    have I0 : Hid (DelInv g l p k (k + 1) w w) := by
      have e1 : ((l.take k).filter fun x => !p x) = l.take k := by
        rw [List.filter_eq_self]
        intro x hx
        obtain ⟨j, hj, rfl⟩ := List.mem_iff_getElem.1 hx
        rw [List.length_take] at hj
        have := hall' j (by omega)
        rw [List.getD, List.getElem?_eq_getElem (by omega)] at this
        simp at this
        simp [this]
      have e2 : ((l.take (k + 1)).filter fun x => !p x) = l.take k := by rw [filter_snoc hk, e1, if_pos ht', List.append_nil]
      refine ⟨by rw [e2, List.length_take]; omega, Nat.lt_succ_self k, fun q hq => ?_, fun q h1 h2 => (HR.out q h2).1, fun q hq => ⟨by rw [(HR.out q hq).1]; rfl, (HR.out q hq).2⟩, Only.refl _ _⟩
      rw [e2, (HR.out q (by omega)).1]
      simp only [List.getD, List.getElem?_take, if_pos hq]
    clear hall hall' ht ht' HI
    have hkn : ¬ ((k : Int) == -1) = true := by simp
    have hkb : ((k : Int) == -1) = false := by simp
    clear hkn
    go_wp2
    go_loopw [5, 6] (fun s5 s6 wr => ∃ i j : Nat, s5 = .int .i64 i ∧ s6 = .int .i64 j ∧ j ≤ l.length ∧ Hid (DelInv g l p i j w wr)) (fun _ j _ => l.length - (intOf j).toNat)
    case atStart => exact ⟨k, k + 1, rfl, by go_num, by omega, I0⟩
    case round =>
      obtain ⟨i, j, rfl, rfl, hj, IN⟩ := hrel
      have hij := IN.out.2.1
      by_cases hlt : j < l.length
      · have c1 := IN.out.2.2.2.1 j (Nat.le_refl _) hlt
        have hpc := HP.out wr IN.out.2.2.2.2.2 _ (MD.out j hlt)
        have HFS := Lib.hid (filter_snoc (p := p) hlt)
        obtain ⟨x, hx⟩ : ∃ x, l.getD j 0 = x := ⟨_, rfl⟩
        have HX := Lib.hid hx
        rw [hx] at c1 hpc HFS
        clear hx
        obtain ⟨_, f1⟩ := IN.out.2.2.2.2.1 i (by omega)
        obtain ⟨u, c2⟩ := Option.isSome_iff_exists.1 (IN.out.2.2.2.2.1 i (by omega)).1
        cases hq : p x with
        | true =>
          rw [hq] at hpc HFS
          have HCL := Lib.hid hpc
          have HQ := Lib.hid hq
          clear hpc hq
          go_wp2_with (go_at_fn gf; refine HCL.out.mono ?_; rintro e w2 ⟨rfl, rfl⟩)
          go_roundw
          case rel =>
            have e : ((l.take (j + 1)).filter fun x => !p x) = ((l.take j).filter fun x => !p x) := by rw [HFS.out]; simp
            obtain ⟨h1, h2, h3, h4, h5, h6⟩ := IN.out
            exact ⟨i, j + 1, rfl, by go_num, by omega, Lib.hid ⟨by rw [e]; exact h1, by omega, fun q hq => by rw [e]; exact h3 q hq, fun q hq1 hq2 => h4 q (by omega) hq2, h5, h6⟩⟩
          case measure => simp [intOf]; omega
        | false =>
          rw [hq] at hpc HFS
          have HCL := Lib.hid hpc
          have HQ := Lib.hid hq
          clear hpc hq
          have hil : (i : Int) < l.length := by omega
          go_wp2_with (go_at_fn gf; refine HCL.out.mono ?_; rintro e w2 ⟨rfl, rfl⟩)
          go_roundw
          case rel =>
            have e : ((l.take (j + 1)).filter fun x => !p x) = ((l.take j).filter fun x => !p x) ++ [x] := by rw [HFS.out]; simp
            obtain ⟨h1, h2, h3, h4, h5, h6⟩ := IN.out
            refine ⟨i + 1, j + 1, by go_num, by go_num, by omega, Lib.hid ⟨by rw [e, List.length_append, ← h1]; rfl, by omega, fun q hq => ?_, fun q hq1 hq2 => ?_, fun q hq => ⟨?_, by rw [World.frozen?_setCell]; exact (h5 q hq).2⟩, h6.setCell ⟨g, _, none⟩ (.inl rfl) _⟩⟩
            · rw [e]
              by_cases hqi : q = i
              · subst hqi
                rw [World.cell?_setCell_same _ _ _ (by first | exact c2 | simpa using c2)]
                simp [List.getD, h1]
              · rw [World.cell?_setCell_other _ _ _ _ (by intro e'; simp only [Addr.mk.injEq] at e'; omega), h3 q (by omega)]
                simp only [List.getD, List.getElem?_append_left (show q < ((l.take j).filter fun x => !p x).length by omega)]
            · rw [World.cell?_setCell_other _ _ _ _ (by intro e'; simp only [Addr.mk.injEq] at e'; omega)]
              exact h4 q (by omega) hq2
            · by_cases hqi : q = i
              · subst hqi
                rw [World.cell?_setCell_same _ _ _ (by first | exact c2 | simpa using c2)]; rfl
              · rw [World.cell?_setCell_other _ _ _ _ (by intro e'; simp only [Addr.mk.injEq] at e'; omega)]; exact (h5 q hq).1
          case measure => simp [intOf]; omega
      · obtain rfl : j = l.length := by omega
        have hcl := fun ty => Lib.run_clear_slice (P := Try.prog) wr 29 3 ty (.int .i64 0) Try.underlying29 zero3 rfl rfl g i (l.length - i) (cap - i) (by omega) (fun q hq => (IN.out.2.2.2.2.1 (i + q) (by omega)).1) (fun q hq => (IN.out.2.2.2.2.1 (i + q) (by omega)).2)
        have hic : (i : Int) < cap := by omega
        have hil : (i : Int) ≤ l.length := by omega
        have FIN : Hid (RowIs (wr.setCells g i (List.replicate (l.length - i) (.int .i64 0))) g (l.filter fun x => !p x) ∧ i = (l.filter fun x => !p x).length) := by
          obtain ⟨h1, h2, h3, h4, h5, h6⟩ := IN.out
          rw [List.take_of_length_le (Nat.le_refl _)] at h1 h3
          refine ⟨fun q hq => ⟨?_, by rw [World.frozen?_setCells]; exact (h5 q (by omega)).2⟩, h1⟩
          rw [World.cell?_setCells_out _ _ _ _ _ (fun _ _ => .inl (by show q < i; omega))]
          exact h3 q (by omega)
        have ON := Lib.hid (only_setCellsD (g := g) (i := i) (vs := List.replicate (l.length - i) (.int .i64 0)) IN.out.2.2.2.2.2)
        go_wp2
        go_ret
        exact ⟨by rw [← FIN.out.2]; rfl, FIN.out.1, ON.out⟩
end Go.Proofs.Ytgfjfpfhalblgaa
