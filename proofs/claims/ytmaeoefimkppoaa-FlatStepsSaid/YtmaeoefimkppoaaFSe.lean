/- slices.BinarySearch of rising numbers, and what Next of a memory returns. -/
import Derived.Test.YtmaeoefimkppoaaFBe
namespace Go.Proofs.Ytmaeoefimkppoaa.Fl
set_option maxRecDepth 1000000
open Go.ChangeShapes Go.WideShapes Go.ChangeAt Go.RowKit
open Go.Proofs.Ytmaeoefimkppoaa.Wd

theorem nan_any (x : Int) (w : World) : Calls Try.prog 84 #[.int .i64 x] w fun e w' => e = .returned (.bool false) ∧ w = w' := by
  go_enter Try.func84, Try.ntmps84
  go_wp2
  go_ret
  exact ⟨rfl, rfl⟩
theorem nan2_any (x : Int) (w : World) : Calls Try.prog 77 #[.int .i64 x] w fun e w' => e = .returned (.bool false) ∧ w = w' := by
  go_enter Try.func77, Try.ntmps77
  go_wp2
  go_ret
  exact ⟨rfl, rfl⟩
theorem less_any (x y : Int) (w : World) : Calls Try.prog 76 #[.int .i64 x, .int .i64 y] w fun e w' => e = .returned (.bool (decide (x < y))) ∧ w = w' := by
  go_enter Try.func76, Try.ntmps76
  go_wp2_with (go_at_call 84; refine (nan_any _ _).mono ?_; rintro e w1 ⟨rfl, rfl⟩)
  all_goals go_ret
  all_goals exact ⟨rfl, rfl⟩
/-- Where the numbers from t on begin. -/
def FromIs (xs : List Int) (t : Int) (k : Nat) : Prop := k ≤ xs.length ∧ (∀ j, j < k → xs.getD j 0 < t) ∧ ∀ j, k ≤ j → j < xs.length → t ≤ xs.getD j 0
def SeaPost (xs : List Int) (t : Int) (w : World) (e : Ending) (w' : World) : Prop := ∃ k b, e = .returned (.tuple #[.int .i64 (k : Nat), .bool b]) ∧ FromIs xs t k ∧ w = w'
theorem rise_at {xs : List Int} (h : xs.Pairwise (· < ·)) {i j : Nat} (hij : i < j) (hj : j < xs.length) : xs.getD i 0 < xs.getD j 0 := by
  have := List.pairwise_iff_getElem.1 h i j (by omega) hj hij
  simpa [List.getD, List.getElem?_eq_getElem hj, List.getElem?_eq_getElem (show i < xs.length by omega)] using this
set_option maxHeartbeats 1000000 in
theorem search_any (v : Value) (xs : List Int) (t : Int) (w : World) (hv : Ints w v xs) (hp : xs.Pairwise (· < ·)) (hl : xs.length ≤ 1000000) :
    Calls Try.prog 62 #[v, .int .i64 t] w (SeaPost xs t w) := by
  obtain ⟨a, c, rfl, h⟩ := hv
  have H := Lib.hid h
  have HP := Lib.hid hp
  clear h hp
  go_enter Try.func62, Try.ntmps62
  go_wp2
  go_loop [7, 8, 9, 27] (fun i j _ _ => ∃ p q : Nat, i = .int .i64 p ∧ j = .int .i64 q ∧ p ≤ q ∧ q ≤ xs.length ∧ (∀ k, k < p → xs.getD k 0 < t) ∧ ∀ k, q ≤ k → k < xs.length → t ≤ xs.getD k 0) (fun i j _ _ => (RowKit.intOf j).toNat - (RowKit.intOf i).toNat)
  case atStart => exact ⟨0, xs.length, rfl, rfl, Nat.zero_le _, Nat.le_refl _, fun k hk => by omega, fun k h1 h2 => by omega⟩
  case round =>
    obtain ⟨p, q, rfl, rfl, hpq, hq, h1, h2⟩ := hrel
    have H1 := Lib.hid h1
    have H2 := Lib.hid h2
    clear h1 h2
    by_cases hlt : p < q
    · have hn1 : xs ≠ [] := fun e => by subst e; simp at hq; omega
      obtain ⟨b1, o1, rfl, q1⟩ := H.out.resolve_left hn1
      obtain ⟨m, hm⟩ : ∃ m, m = (p + q) / 2 := ⟨_, rfl⟩
      have hm1 : p ≤ m := by omega
      have hm2 : m < q := by omega
      have hm3 : m < xs.length := by omega
      obtain ⟨s, hs⟩ : ∃ s : Nat, s = p + q := ⟨_, rfl⟩
      have e0 : (p : Int) + q = s := by omega
      have e1 : (s : Int) / 2 = m := by omega
      have e2 : IntKind.i64.wrap (s : Int) = s := by rw [IntKind.wrap_i64]; omega
      have e3 : IntKind.u64.wrap (s : Int) = s := by simp [IntKind.wrap, IntKind.bits, IntKind.signed]; omega
      have e4 : IntKind.i64.wrap ((m : Int)) = m := by rw [IntKind.wrap_i64]; omega
      have e5 : IntKind.i64.wrap ((m : Int) + 1) = (m : Int) + 1 := by rw [IntKind.wrap_i64]; omega
      have HSM := Lib.hid hs
      clear hs hm
      have r1 := q1 m hm3
      have hd : decide ((p : Int) < q) = true := by simpa using hlt
      have HX : Hid (∀ x, xs.getD m 0 = x → (decide (x < t) = true → ∀ k, k < m + 1 → xs.getD k 0 < t) ∧ (decide (x < t) = false → ∀ k, m ≤ k → k < xs.length → t ≤ xs.getD k 0)) := Lib.hid fun x hx => by
        subst hx
        refine ⟨fun h k hk => ?_, fun h k hk hk2 => ?_⟩
        · simp only [decide_eq_true_eq] at h
          by_cases hkm : k = m
          · subst hkm; exact h
          · have := rise_at HP.out (i := k) (j := m) (by omega) hm3; omega
        · simp only [decide_eq_false_iff_not] at h
          by_cases hkm : k = m
          · subst hkm; omega
          · have := rise_at HP.out (i := m) (j := k) (by omega) hk2; omega
      have HY := Lib.hid (HX.out _ rfl)
      clear hn1 q1 HX
      have hm2' := hm2
      generalize xs.getD m 0 = x at r1 HY
      have HC : Hid (∀ w, Calls Try.prog 76 #[.int .i64 x, .int .i64 t] w fun e w' => e = .returned (.bool (decide (x < t))) ∧ w = w') := Lib.hid fun w => less_any x t w
      cases hxt : decide (x < t) with
      | true =>
        have HZ := Lib.hid (HY.out.1 hxt)
        rw [hxt] at HC
        clear hxt HY
        go_wp2_with fail
        refine (HC.out _).mono ?_
        rintro e w1 ⟨rfl, rfl⟩
        go_wp2
        refine ⟨⟨m + 1, q, by go_num, rfl, by omega, hq, HZ.out, H2.out⟩, by simp [RowKit.intOf]; omega⟩
      | false =>
        have HZ := Lib.hid (HY.out.2 hxt)
        rw [hxt] at HC
        clear hxt HY
        go_wp2_with fail
        refine (HC.out _).mono ?_
        rintro e w1 ⟨rfl, rfl⟩
        go_wp2
        refine ⟨⟨p, m, rfl, rfl, hm1, by omega, H1.out, HZ.out⟩, by simp [RowKit.intOf]; omega⟩
    · obtain rfl : p = q := by omega
      have HE : Hid (FromIs xs t p) := ⟨hq, H1.out, H2.out⟩
      clear H1 H2
      by_cases hpl : p < xs.length
      · have hn1 : xs ≠ [] := fun e => by subst e; simp at hpl
        obtain ⟨b1, o1, rfl, q1⟩ := H.out.resolve_left hn1
        have r1 := q1 p hpl
        have hd : decide ((p : Int) < xs.length) = true := by simpa using hpl
        clear hn1 q1
        generalize xs.getD p 0 = x at r1
        by_cases hx : x = t
        · subst hx
          go_wp2
          go_ret2
          exact ⟨p, _, rfl, HE.out, rfl⟩
        · have hx2 : (x == t) = false := by simpa using hx
          clear hx
          go_wp2_with (go_at_call 77; refine (nan2_any _ _).mono ?_; rintro e w1 ⟨rfl, rfl⟩)
          go_ret2
          exact ⟨p, _, rfl, HE.out, rfl⟩
      · have hd : decide (p < xs.length) = false := by simpa using hpl
        clear hpl
        go_wp2
        go_ret2
        exact ⟨p, _, rfl, HE.out, rfl⟩

theorem from_next {E : Mem} {o : Int} {k : Nat} (h : FromIs (ids E) (namV o + 1) k) : nxt E o = (ids E)[k]? := by
  obtain ⟨h1, h2, h3⟩ := h
  unfold nxt
  by_cases hk : k < (ids E).length
  · rw [List.getElem?_eq_getElem hk, List.find?_eq_some_iff_getElem]
    have hg : ∀ j (hj : j < (ids E).length), (ids E).getD j 0 = (ids E)[j] := fun j hj => by simp [List.getD, List.getElem?_eq_getElem hj]
    refine ⟨?_, k, hk, rfl, fun j hj => ?_⟩
    · have := h3 k (Nat.le_refl _) hk
      rw [hg k hk] at this
      simpa using (by omega : namV o < (ids E)[k])
    · have := h2 j hj
      rw [hg j (by omega)] at this
      simpa using (by omega : ¬ namV o < (ids E)[j])
  · rw [List.getElem?_eq_none (by omega), List.find?_eq_none]
    intro x hx
    obtain ⟨j, hj, rfl⟩ := List.getElem_of_mem hx
    have := h2 j (by omega)
    simp only [List.getD, List.getElem?_eq_getElem hj, Option.getD_some] at this
    simpa using (by omega : ¬ namV o < (ids E)[j])
def NextPost (E : Mem) (o : Int) (w : World) (e : Ending) (w' : World) : Prop := e = .returned (.tuple #[.int .i64 (nextN E o), .bool (nextB E o)]) ∧ w = w'
set_option maxHeartbeats 1000000 in
theorem next_any {w : World} {K : Nat → Prop} {m : Nat} {E : Mem} (h : MemB K w m E) (o : Int) (ho : In64 o) :
    Calls Try.prog 37 #[.pointer (some ⟨m, 0, none⟩), .int .i64 o] w (NextPost E o w) := by
  obtain ⟨r, nv, L, h, rfl⟩ := h
  have hid : ids (mapO En.o L) = ids L := ids_mapO _ _
  have HN : Hid (∀ w, Calls Try.prog 61 #[.int .i64 o] w fun e w' => e = .returned (.tuple #[.int .i64 (namV o), .bool (namB o)]) ∧ w = w') := Lib.hid fun w => named_any o w ho.1 ho.2
  obtain ⟨an, cn, rfl⟩ := own_form h.nums
  have hr := own_ints (xs := ids L) h.nums
  have hle : (ids L).length ≤ 1000000 := Nat.le_trans (ids_le L) h.few
  have HS : Hid (∀ w, Ints w (.slice an (ids L).length cn) (ids L) → Calls Try.prog 62 #[.slice an (ids L).length cn, .int .i64 (namV o + 1)] w (SeaPost (ids L) (namV o + 1) w)) := fun w hr => search_any _ (ids L) (namV o + 1) w hr (ids_rise L) hle
  have HR := Lib.hid hr
  have q2 := h.c2
  have hlt := h.lt
  have hnv : 0 ≤ namV o ∧ namV o ≤ 1073741823 := by
    unfold namV
    split
    · rename_i hh; have := nam_rng hh; omega
    · omega
  have hw : IntKind.i64.wrap (namV o + 1) = namV o + 1 := by rw [IntKind.wrap_i64]; omega
  have HF : Hid (∀ k, FromIs (ids L) (namV o + 1) k → nxt (mapO En.o L) o = (ids L)[k]?) := Lib.hid fun k hk => by
    rw [← hid]; exact from_next (by rw [hid]; exact hk)
  have HRng : Hid (∀ i ∈ ids L, 1 ≤ i ∧ i ≤ 1000000) := Lib.hid fun i hi => by
    have := ids_rng hi
    have := h.few
    omega
  clear hr h ho hid hnv
  have HP : Hid (∀ n b, n = nextN (mapO En.o L) o → b = nextB (mapO En.o L) o → NextPost (mapO En.o L) o w (.returned (.tuple #[.int .i64 n, .bool b])) w) := Lib.hid fun n b h1 h2 => by
    subst h1 h2; exact ⟨rfl, rfl⟩
  generalize namV o = i at *
  generalize namB o = bb at *
  generalize hxs : ids L = xs at *
  go_enter Try.func37, Try.ntmps37
  go_wp2_with fail
  refine (HN.out _).mono ?_
  rintro e w1 ⟨rfl, rfl⟩
  go_wp2_with fail
  refine (HS.out _ HR.out).mono ?_
  rintro e w1 ⟨k, b, rfl, hk, rfl⟩
  have hx := HF.out k hk
  have hkl := hk.1
  clear hk HF HS HN
  by_cases hk2 : k = xs.length
  · subst hk2
    go_wp2
    go_ret2
    refine HP.out _ _ ?_ ?_
    · unfold nextN; rw [hx]; simp
    · unfold nextB; rw [hx]; simp
  · have hk3 : k < xs.length := by omega
    have hd : (k == xs.length) = false := by simpa using hk2
    have hn1 : xs ≠ [] := fun e => by subst e; simp at hk3
    obtain ⟨_, _, hsv, hr⟩ := HR.out
    obtain ⟨b1, o1, rfl, q1⟩ := hr.resolve_left hn1
    injection hsv with e1 _ _
    subst e1
    have r1 := q1 k hk3
    have hx2 : xs[k]? = some (xs.getD k 0) := by simp [List.getD, List.getElem?_eq_getElem hk3]
    have hrg := HRng.out (xs.getD k 0) (by simp only [List.getD, List.getElem?_eq_getElem hk3, Option.getD_some]; exact List.getElem_mem _)
    have HO := Lib.hid fun w => oop_is (xs.getD k 0) w hrg.1 (by omega)
    rw [hx2] at hx
    have HX := Lib.hid hx
    clear hn1 q1 hx hx2 hk2 hr hrg
    generalize xs.getD k 0 = z at *
    go_wp2_with (go_at_call 59; refine (HO.out _).mono ?_; rintro e' w4 ⟨rfl, rfl⟩)
    go_ret2
    refine HP.out _ _ ?_ ?_
    · unfold nextN; rw [HX.out]; rfl
    · unfold nextB; rw [HX.out]; rfl
end Go.Proofs.Ytmaeoefimkppoaa.Fl
