/- Rows of numbers that are exchanged: what stays; what a row in memory is while it is sorted; slices.insertionSortCmpFunc, with a method as the comparison. -/
import Derived.Test.YtgfjfpfhalblgaaHRd
import Derived.BigRegion
import Derived.Shelf.GgClosure.Gives
namespace Go.Proofs.Ytgfjfpfhalblgaa
set_option maxRecDepth 1000000
open Go.ChangeShapes Go.WideShapes Go.ChangeAt Go.RowKit

/-- D' has in its places from a to b what D has there, in whatever order; elsewhere it is D. -/
structure Shuf (a b : Nat) (D D' : Nat → Nat) : Prop where
  out : ∀ i, ¬ (a ≤ i ∧ i < b) → D' i = D i
  to_ : ∀ i, a ≤ i → i < b → ∃ j, a ≤ j ∧ j < b ∧ D' i = D j
  fro : ∀ i, a ≤ i → i < b → ∃ j, a ≤ j ∧ j < b ∧ D i = D' j
theorem Shuf.refl (a b : Nat) (D : Nat → Nat) : Shuf a b D D := ⟨fun _ _ => rfl, fun i h1 h2 => ⟨i, h1, h2, rfl⟩, fun i h1 h2 => ⟨i, h1, h2, rfl⟩⟩
theorem Shuf.trans {a b : Nat} {D D' D'' : Nat → Nat} (h : Shuf a b D D') (k : Shuf a b D' D'') : Shuf a b D D'' :=
  ⟨fun i hi => (k.out i hi).trans (h.out i hi), fun i h1 h2 => by
    obtain ⟨j, j1, j2, e⟩ := k.to_ i h1 h2
    obtain ⟨m, m1, m2, e2⟩ := h.to_ j j1 j2
    exact ⟨m, m1, m2, e.trans e2⟩, fun i h1 h2 => by
    obtain ⟨j, j1, j2, e⟩ := h.fro i h1 h2
    obtain ⟨m, m1, m2, e2⟩ := k.fro j j1 j2
    exact ⟨m, m1, m2, e.trans e2⟩⟩
theorem Shuf.mono {a b a' b' : Nat} {D D' : Nat → Nat} (h : Shuf a b D D') (ha : a' ≤ a) (hb : b ≤ b') : Shuf a' b' D D' :=
  ⟨fun i hi => h.out i (by omega), fun i h1 h2 => by
    by_cases hi : a ≤ i ∧ i < b
    · obtain ⟨j, j1, j2, e⟩ := h.to_ i hi.1 hi.2
      exact ⟨j, by omega, by omega, e⟩
    · exact ⟨i, h1, h2, h.out i hi⟩, fun i h1 h2 => by
    by_cases hi : a ≤ i ∧ i < b
    · obtain ⟨j, j1, j2, e⟩ := h.fro i hi.1 hi.2
      exact ⟨j, by omega, by omega, e⟩
    · exact ⟨i, h1, h2, (h.out i hi).symm⟩⟩
/-- What holds of all there stays so. -/
theorem Shuf.all {a b : Nat} {D D' : Nat → Nat} (h : Shuf a b D D') {P : Nat → Prop} (hp : ∀ i, a ≤ i → i < b → P (D i)) : ∀ i, a ≤ i → i < b → P (D' i) := fun i h1 h2 => by
  obtain ⟨j, j1, j2, e⟩ := h.to_ i h1 h2
  rw [e]; exact hp j j1 j2
def swp (D : Nat → Nat) (i j : Nat) : Nat → Nat := fun k => if k = i then D j else if k = j then D i else D k
theorem swp_i (D : Nat → Nat) (i j : Nat) : swp D i j i = D j := by simp [swp]
theorem swp_j (D : Nat → Nat) (i j : Nat) : swp D i j j = D i := by
  by_cases h : j = i
  · subst h; simp [swp]
  · simp [swp, h]
theorem swp_o (D : Nat → Nat) {i j k : Nat} (h1 : k ≠ i) (h2 : k ≠ j) : swp D i j k = D k := by simp [swp, h1, h2]
theorem shuf_swp {a b i j : Nat} (D : Nat → Nat) (hi : a ≤ i ∧ i < b) (hj : a ≤ j ∧ j < b) : Shuf a b D (swp D i j) :=
  ⟨fun k hk => swp_o D (by rintro rfl; exact hk hi) (by rintro rfl; exact hk hj), fun k h1 h2 => by
    by_cases e : k = i
    · exact ⟨j, hj.1, hj.2, by rw [e, swp_i]⟩
    · by_cases e2 : k = j
      · exact ⟨i, hi.1, hi.2, by rw [e2, swp_j]⟩
      · exact ⟨k, h1, h2, swp_o D e e2⟩, fun k h1 h2 => by
    by_cases e : k = i
    · exact ⟨j, hj.1, hj.2, by rw [e, swp_j]⟩
    · by_cases e2 : k = j
      · exact ⟨i, hi.1, hi.2, by rw [e2, swp_i]⟩
      · exact ⟨k, h1, h2, (swp_o D e e2).symm⟩⟩

/-- No two of the first n have one key; each is below M. -/
structure Keyd (K : Nat → Int) (M n : Nat) (D : Nat → Nat) : Prop where
  el : ∀ i, i < n → D i < M
  inj : ∀ i j, i < n → j < n → i ≠ j → K (D i) ≠ K (D j)
theorem Keyd.swp {K : Nat → Int} {M n i j : Nat} {D : Nat → Nat} (h : Keyd K M n D) (hi : i < n) (hj : j < n) : Keyd K M n (swp D i j) := by
  have key : ∀ k, k < n → ∃ m, m < n ∧ Ytgfjfpfhalblgaa.swp D i j k = D m ∧ (k = i → m = j) ∧ (k = j → m = i) ∧ (k ≠ i → k ≠ j → m = k) := fun k hk => by
    by_cases e : k = i
    · by_cases e2 : k = j
      · exact ⟨j, hj, by rw [e, swp_i], fun _ => rfl, fun _ => by omega, fun h => absurd e h⟩
      · exact ⟨j, hj, by rw [e, swp_i], fun _ => rfl, fun h => absurd h e2, fun h => absurd e h⟩
    · by_cases e2 : k = j
      · exact ⟨i, hi, by rw [e2, swp_j], fun h => absurd h e, fun _ => rfl, fun _ h => absurd e2 h⟩
      · exact ⟨k, hk, swp_o D e e2, fun h => absurd h e, fun h => absurd h e2, fun _ _ => rfl⟩
  refine ⟨fun k hk => ?_, fun k m hk hm hkm => ?_⟩
  · obtain ⟨q, hq, e, _⟩ := key k hk
    rw [e]; exact h.el q hq
  · obtain ⟨q, hq, e, q1, q2, q3⟩ := key k hk
    obtain ⟨r, hr, e', r1, r2, r3⟩ := key m hm
    rw [e, e']
    refine h.inj q r hq hr fun hqr => ?_
    by_cases k1 : k = i
    · have := q1 k1
      by_cases m1 : m = j
      · have := r2 m1; omega
      · by_cases m2 : m = i
        · omega
        · have := r3 m2 m1; omega
    · by_cases k2 : k = j
      · have := q2 k2
        by_cases m1 : m = i
        · have := r1 m1; omega
        · by_cases m2 : m = j
          · omega
          · have := r3 m1 m2; omega
      · have := q3 k1 k2
        by_cases m1 : m = i
        · have := r1 m1; omega
        · by_cases m2 : m = j
          · have := r2 m2; omega
          · have := r3 m1 m2; omega
def SortedK (K : Nat → Int) (a b : Nat) (D : Nat → Nat) : Prop := ∀ i j, a ≤ i → i < j → j < b → K (D i) < K (D j)

/-- The row in memory, behind what was done since w0. -/
structure Srt (w0 : World) (blk off n : Nat) (K : Nat → Int) (M : Nat) (D : Nat → Nat) (w : World) : Prop where
  row : ∀ i, i < n → w.cell? ⟨blk, off + i, none⟩ = some (.int .i64 (D i : Nat)) ∧ w.frozen? ⟨blk, off + i, none⟩ = false
  on : Only (· = blk) w0 w
  ky : Keyd K M n D
  lt : blk < w.heap.size
section
variable {w0 w w' : World} {blk off n M : Nat} {K : Nat → Int} {D : Nat → Nat}
theorem Srt.drewN (h : Srt w0 blk off n K M D w) (q : Nat) : Srt w0 blk off n K M D (w.drewN q) := ⟨h.row, h.on.drewN q, h.ky, h.lt⟩
theorem Srt.fresh (h : Srt w0 blk off n K M D w) (b : Below w.heap.size w w') : Srt w0 blk off n K M D w' :=
  ⟨fun i hi => ⟨(b.cell (p := ⟨blk, off + i, none⟩) h.lt).trans (h.row i hi).1, (b.frozen (p := ⟨blk, off + i, none⟩) h.lt).trans (h.row i hi).2⟩, h.on.then_ (Only.of_below (F := (· = blk)) b) (fun _ _ h => h), h.ky, Nat.lt_of_lt_of_le h.lt b.size⟩
/-- Behind an exchange. -/
theorem Srt.swap (h : Srt w0 blk off n K M D w) {i j : Nat} (hi : i < n) (hj : j < n) :
    Srt w0 blk off n K M (swp D i j) ((w.setCell ⟨blk, off + i, none⟩ (.int .i64 (D j : Nat))).setCell ⟨blk, off + j, none⟩ (.int .i64 (D i : Nat))) := by
  refine ⟨fun k hk => ⟨?_, by rw [World.frozen?_setCell, World.frozen?_setCell]; exact (h.row k hk).2⟩, (h.on.setCell ⟨blk, _, none⟩ (.inl rfl) _).setCell ⟨blk, _, none⟩ (.inl rfl) _, h.ky.swp hi hj, by simpa [World.setCell] using h.lt⟩
  by_cases e : k = j
  · subst e
    have : ∃ u, (w.setCell ⟨blk, off + i, none⟩ (.int .i64 (D k : Nat))).cell? ⟨blk, off + k, none⟩ = some u := by
      by_cases e : i = k
      · subst e; exact ⟨_, World.cell?_setCell_same _ _ _ (h.row i hi).1⟩
      · exact ⟨_, (World.cell?_setCell_other _ _ _ _ (by intro e'; simp only [Addr.mk.injEq] at e'; omega)).trans (h.row k hk).1⟩
    obtain ⟨u, hu⟩ := this
    rw [World.cell?_setCell_same _ _ _ hu, swp_j]
  · rw [World.cell?_setCell_other _ _ _ _ (by intro e'; simp only [Addr.mk.injEq] at e'; omega)]
    by_cases e2 : k = i
    · subst e2
      rw [World.cell?_setCell_same _ _ _ (h.row k hk).1, swp_i]
    · rw [World.cell?_setCell_other _ _ _ _ (by intro e'; simp only [Addr.mk.injEq] at e'; omega), swp_o D e2 e]
      exact (h.row k hk).1
/-- The second place, behind the first store. -/
theorem Srt.second (h : Srt w0 blk off n K M D w) {i j : Nat} (hi : i < n) (hj : j < n) (u : Value) : ∃ u', (w.setCell ⟨blk, off + i, none⟩ u).cell? ⟨blk, off + j, none⟩ = some u' := by
  by_cases e : i = j
  · subst e; exact ⟨_, World.cell?_setCell_same _ _ _ (h.row i hi).1⟩
  · exact ⟨_, (World.cell?_setCell_other _ _ _ _ (by intro e'; simp only [Addr.mk.injEq] at e'; omega)).trans (h.row j hj).1⟩
end
def cmpK (K : Nat → Int) (x y : Nat) : Int := if K x < K y then -1 else if K y < K x then 1 else 0
theorem cmpK_lt {K : Nat → Int} {x y : Nat} : cmpK K x y < 0 ↔ K x < K y := by
  unfold cmpK
  split
  · simp_all
  · split <;> simp_all
/-- What is asked of the comparison. -/
def CmpOk (w0 : World) (blk : Nat) (K : Nat → Int) (M : Nat) (hp : Value) : Prop :=
  ∀ (w' : World) (x y : Nat), Only (· = blk) w0 w' → x < M → y < M → Calls Try.prog 34 #[hp, .int .i64 x, .int .i64 y] w' fun e w'' => e = .returned (.int .i64 (cmpK K x y)) ∧ ∃ q, w'' = w'.drewN q
/-- What a sort leaves. -/
def SortPost (w0 : World) (blk off n : Nat) (K : Nat → Int) (M a b : Nat) (D : Nat → Nat) (e : Ending) (w' : World) : Prop :=
  e = .returned (.tuple #[]) ∧ ∃ D', Srt w0 blk off n K M D' w' ∧ Shuf a b D D' ∧ SortedK K a b D'
/-- .. while an element is on its way to its place j among the first i + 1. -/
def InsK (K : Nat → Int) (a i j : Nat) (D : Nat → Nat) : Prop := (∀ p q, a ≤ p → p < q → q ≤ i → p ≠ j → q ≠ j → K (D p) < K (D q)) ∧ ∀ q, j < q → q ≤ i → K (D j) < K (D q)
theorem ins_start {K : Nat → Int} {a i : Nat} {D : Nat → Nat} (h : SortedK K a i D) : InsK K a i i D := ⟨fun p q h1 h2 h3 _ h5 => h p q h1 h2 (by omega), fun q h1 h2 => by omega⟩
theorem ins_stop {K : Nat → Int} {a i j : Nat} {D : Nat → Nat} (h : InsK K a i j D) (_hj : a ≤ j) (hs : j = a ∨ K (D (j - 1)) < K (D j)) : SortedK K a (i + 1) D := by
  intro p q h1 h2 h3
  by_cases hq : q = j
  · subst hq
    rcases hs with hs | hs
    · omega
    · by_cases hp : p = q - 1
      · rw [hp]; exact hs
      · exact Int.lt_trans (h.1 p (q - 1) h1 (by omega) (by omega) (by omega) (by omega)) hs
  · by_cases hp : p = j
    · subst hp; exact h.2 q h2 (by omega)
    · exact h.1 p q h1 h2 (by omega) hp hq
theorem ins_step {K : Nat → Int} {a i j : Nat} {D : Nat → Nat} (h : InsK K a i (j + 1) D) (hj : a ≤ j) (hji : j + 1 ≤ i) (hl : K (D (j + 1)) < K (D j)) : InsK K a i j (swp D (j + 1) j) := by
  refine ⟨fun p q h1 h2 h3 h4 h5 => ?_, fun q h1 h2 => ?_⟩
  · by_cases hp : p = j + 1
    · subst hp
      rw [swp_i, swp_o D (by omega) (by omega)]
      exact h.1 j q hj (by omega) h3 (by omega) (by omega)
    · rw [swp_o D hp h4]
      by_cases hq : q = j + 1
      · subst hq; rw [swp_i]
        exact h.1 p j h1 (by omega) (by omega) (by omega) (by omega)
      · rw [swp_o D hq h5]; exact h.1 p q h1 h2 h3 hp hq
  · rw [swp_j]
    by_cases hq : q = j + 1
    · subst hq; rw [swp_i]; exact hl
    · rw [swp_o D hq (by omega)]; exact h.2 q (by omega) h2

theorem eg34 : ∀ args w, (callFunc 34 args).run Try.prog w = .ok (.enter 34 args) w := enters_of Try.func34 (by kernel_rfl) rfl
set_option maxHeartbeats 4000000 in
theorem insertion_any (w0 : World) (blk off n cap M a b : Nat) (K : Nat → Int) (hp : Value) (D : Nat → Nat) (w : World) (hC : CmpOk w0 blk K M hp) (h : Srt w0 blk off n K M D w) (hab : a ≤ b) (hb : b ≤ n) (hn : n ≤ 1000000000) :
    Calls Try.prog 38 #[.slice (some ⟨blk, off, none⟩) n cap, .int .i64 a, .int .i64 b, .func (.func 34) #[hp] #[]] w (SortPost w0 blk off n K M a b D) := by
  have HC := Lib.hid hC
  have H0 := Lib.hid h
  have eg := eg34
  clear h hC
  go_enter Try.func38, Try.ntmps38
  go_wp2
  go_loopg [8] (b - a) (fun g1 s8 wr => ∃ (i : Nat) (Di : Nat → Nat), s8 = .int .i64 i ∧ a < i ∧ i ≤ b + 1 ∧ b + 1 - i ≤ g1 + 1 ∧ Hid (Srt w0 blk off n K M Di wr) ∧ Hid (Shuf a b D Di) ∧ Hid (SortedK K a (min i b) Di))
  case atStart => exact ⟨a + 1, D, by go_num, by omega, by omega, by omega, H0, Lib.hid (Shuf.refl _ _ _), Lib.hid (fun p q h1 h2 h3 => by omega)⟩
  case round =>
    obtain ⟨i, Di, rfl, hai, hib, hg1, S1, SH, SO⟩ := hrel
    by_cases hlt : i < b
    · have hltz : (i : Int) < (b : Int) := by omega
      go_wp2
      go_loopg [9] i (fun g2 s9 wr2 => ∃ (j : Nat) (Dj : Nat → Nat), s9 = .int .i64 j ∧ a ≤ j ∧ j ≤ i ∧ j ≤ g2 ∧ Hid (Srt w0 blk off n K M Dj wr2) ∧ Hid (Shuf a b D Dj) ∧ Hid (InsK K a i j Dj))
      case atStart => exact ⟨i, Di, rfl, by omega, Nat.le_refl _, Nat.le_refl _, S1, SH, Lib.hid (ins_start (by have := SO.out; rwa [Nat.min_eq_left (by omega)] at this))⟩
      case round =>
        clear S1 SH SO
        obtain ⟨j, Dj, rfl, haj, hji, hg2, SJ, SHJ, IJ⟩ := hrel
        by_cases hja : a < j
        · obtain ⟨jp, rfl⟩ : ∃ q, j = q + 1 := ⟨j - 1, by omega⟩
          have hjad : decide ((a : Int) < ((jp + 1 : Nat) : Int)) = true := decide_eq_true (by omega)
          have hjad2 : decide ((a : Int) < (jp : Int) + 1) = true := decide_eq_true (by omega)
          have p6 : IntKind.i64.wrap (jp : Int) = jp := by rw [IntKind.wrap_i64]; omega
          by_cases hl : K (Dj (jp + 1)) < K (Dj jp)
          · have HLT := Lib.hid hl
            clear hl
            obtain ⟨i1, hi1⟩ : ∃ q : Nat, q = jp + 1 := ⟨_, rfl⟩
            have eai1 : ((jp : Int) + 1).toNat = i1 := by omega
            have pai1 : (0 : Int) ≤ (jp : Int) + 1 := by omega
            have bai1 : (jp : Int) + 1 < (n : Int) := by omega
            have rai1 : IntKind.i64.wrap ((jp : Int) + 1) = (jp : Int) + 1 := by rw [IntKind.wrap_i64]; omega
            obtain ⟨j1, hj1⟩ : ∃ q : Nat, q = jp := ⟨_, rfl⟩
            have eaj1 : ((jp : Int)).toNat = j1 := by omega
            have paj1 : (0 : Int) ≤ (jp : Int) := by omega
            have baj1 : (jp : Int) < (n : Int) := by omega
            have raj1 : IntKind.i64.wrap ((jp : Int)) = (jp : Int) := by rw [IntKind.wrap_i64]; omega
            obtain ⟨x1, hx1⟩ : ∃ x, Dj (i1) = x := ⟨_, rfl⟩
            obtain ⟨y1, hy1⟩ : ∃ y, Dj (j1) = y := ⟨_, rfl⟩
            obtain ⟨c11, f11⟩ := SJ.out.row i1 (by omega)
            obtain ⟨c21, f21⟩ := SJ.out.row j1 (by omega)
            have hxM1 : x1 < M := by rw [← hx1]; exact SJ.out.ky.el _ (by omega)
            have hyM1 : y1 < M := by rw [← hy1]; exact SJ.out.ky.el _ (by omega)
            rw [hx1] at c11
            rw [hy1] at c21
            have HCL1 := Lib.hid (fun q => HC.out (wr.drewN q) x1 y1 (SJ.out.on.drewN q) hxM1 hyM1)
            have hz1 : decide (cmpK K x1 y1 < 0) = true := by
              rw [← hx1, ← hy1, hi1, hj1]
              exact decide_eq_true (cmpK_lt.2 HLT.out)
            clear hx1 hy1 hxM1 hyM1 hi1 hj1
            generalize cmpK K x1 y1 = z1 at hz1 HCL1
            go_wp2_with fail
            go_quiet ((go_at_fn 34; exact Calls.quiet_of (HCL1.out _)))
            have w2S := Lib.hid (SJ.out.drewN nq)
            clear c11 c21 f11 f21 HCL1
            generalize wr.drewN nq = w2 at w2S ⊢
            clear nq
            clear eai1 pai1 bai1 rai1 eaj1 paj1 baj1 raj1
            obtain ⟨i2, hi2⟩ : ∃ q : Nat, q = jp + 1 := ⟨_, rfl⟩
            have eai2 : ((jp : Int) + 1).toNat = i2 := by omega
            have pai2 : (0 : Int) ≤ (jp : Int) + 1 := by omega
            have bai2 : (jp : Int) + 1 < (n : Int) := by omega
            have rai2 : IntKind.i64.wrap ((jp : Int) + 1) = (jp : Int) + 1 := by rw [IntKind.wrap_i64]; omega
            obtain ⟨j2, hj2⟩ : ∃ q : Nat, q = jp := ⟨_, rfl⟩
            have eaj2 : ((jp : Int)).toNat = j2 := by omega
            have paj2 : (0 : Int) ≤ (jp : Int) := by omega
            have baj2 : (jp : Int) < (n : Int) := by omega
            have raj2 : IntKind.i64.wrap ((jp : Int)) = (jp : Int) := by rw [IntKind.wrap_i64]; omega
            obtain ⟨x2, hx2⟩ : ∃ x, Dj (i2) = x := ⟨_, rfl⟩
            obtain ⟨y2, hy2⟩ : ∃ y, Dj (j2) = y := ⟨_, rfl⟩
            obtain ⟨c12, f12⟩ := w2S.out.row i2 (by omega)
            obtain ⟨c22, f22⟩ := w2S.out.row j2 (by omega)
            obtain ⟨u2, c32⟩ := w2S.out.second (i := i2) (j := j2) (by omega) (by omega) (.int .i64 (y2 : Nat))
            have w3S : Hid (Srt w0 blk off n K M (swp Dj (jp + 1) (jp)) ((w2.setCell ⟨blk, off + i2, none⟩ (.int .i64 (y2 : Nat))).setCell ⟨blk, off + j2, none⟩ (.int .i64 (x2 : Nat))).drew) := by
              show Srt _ _ _ _ _ _ _ _
              rw [← hx2, ← hy2, ← hi2, ← hj2]
              exact (w2S.out.swap (by omega) (by omega)).drewN 1
            rw [hx2] at c12
            rw [hy2] at c22
            clear hx2 hy2 hi2 hj2
            go_wp2_with fail
            go_region
            clear c12 c22 c32 f12 f22
            generalize ((w2.setCell ⟨blk, off + i2, none⟩ (.int .i64 (y2 : Nat))).setCell ⟨blk, off + j2, none⟩ (.int .i64 (x2 : Nat))).drew = w3 at w3S ⊢
            clear eai2 pai2 bai2 rai2 eaj2 paj2 baj2 raj2
            clear p6
            go_wp2_with fail
            go_roundg jp
            case measure => omega
            case rel => exact ⟨jp, swp Dj (jp + 1) jp, by first | rfl | go_num, by omega, by omega, Nat.le_refl _, w3S, Lib.hid (SHJ.out.trans (shuf_swp _ ⟨by omega, by omega⟩ ⟨by omega, by omega⟩)), Lib.hid (ins_step IJ.out (by omega) hji HLT.out)⟩
          · have HLT := Lib.hid hl
            clear hl
            obtain ⟨i3, hi3⟩ : ∃ q : Nat, q = jp + 1 := ⟨_, rfl⟩
            have eai3 : ((jp : Int) + 1).toNat = i3 := by omega
            have pai3 : (0 : Int) ≤ (jp : Int) + 1 := by omega
            have bai3 : (jp : Int) + 1 < (n : Int) := by omega
            have rai3 : IntKind.i64.wrap ((jp : Int) + 1) = (jp : Int) + 1 := by rw [IntKind.wrap_i64]; omega
            obtain ⟨j3, hj3⟩ : ∃ q : Nat, q = jp := ⟨_, rfl⟩
            have eaj3 : ((jp : Int)).toNat = j3 := by omega
            have paj3 : (0 : Int) ≤ (jp : Int) := by omega
            have baj3 : (jp : Int) < (n : Int) := by omega
            have raj3 : IntKind.i64.wrap ((jp : Int)) = (jp : Int) := by rw [IntKind.wrap_i64]; omega
            obtain ⟨x3, hx3⟩ : ∃ x, Dj (i3) = x := ⟨_, rfl⟩
            obtain ⟨y3, hy3⟩ : ∃ y, Dj (j3) = y := ⟨_, rfl⟩
            obtain ⟨c13, f13⟩ := SJ.out.row i3 (by omega)
            obtain ⟨c23, f23⟩ := SJ.out.row j3 (by omega)
            have hxM3 : x3 < M := by rw [← hx3]; exact SJ.out.ky.el _ (by omega)
            have hyM3 : y3 < M := by rw [← hy3]; exact SJ.out.ky.el _ (by omega)
            rw [hx3] at c13
            rw [hy3] at c23
            have HCL3 := Lib.hid (fun q => HC.out (wr.drewN q) x3 y3 (SJ.out.on.drewN q) hxM3 hyM3)
            have hz3 : decide (cmpK K x3 y3 < 0) = false := by
              rw [← hx3, ← hy3, hi3, hj3]
              exact decide_eq_false (fun h => HLT.out (cmpK_lt.1 h))
            clear hx3 hy3 hxM3 hyM3 hi3 hj3
            generalize cmpK K x3 y3 = z3 at hz3 HCL3
            go_wp2_with fail
            go_quiet ((go_at_fn 34; exact Calls.quiet_of (HCL3.out _)))
            have w2S := Lib.hid (SJ.out.drewN nq)
            clear c13 c23 f13 f23 HCL3
            generalize wr.drewN nq = w2 at w2S ⊢
            clear nq
            clear eai3 pai3 bai3 rai3 eaj3 paj3 baj3 raj3
            clear p6
            have HNL : Hid (K (Dj jp) < K (Dj (jp + 1))) := by
              have h1 := w2S.out.ky.inj jp (jp + 1) (by omega) (by omega) (by omega)
              have h2 := HLT.out
              show _ < _
              omega
            go_wp2_with fail
            go_roundg (b - (i + 1))
            case measure => omega
            case rel => exact ⟨i + 1, Dj, by go_num, by omega, by omega, by omega, w2S, SHJ, Lib.hid (by rw [Nat.min_eq_left (by omega)]; exact ins_stop IJ.out haj (.inr HNL.out))⟩
        · have hjad : decide ((a : Int) < (j : Int)) = false := decide_eq_false (by omega)
          have e : j = a := by omega
          have HE := Lib.hid e
          clear e
          go_wp2_with fail
          go_quiet (fail)
          have S2 := Lib.hid (SJ.out.drewN nq)
          generalize wr.drewN nq = w2 at S2 ⊢
          go_wp2_with fail
          go_roundg (b - (i + 1))
          case measure => omega
          case rel => exact ⟨i + 1, Dj, by go_num, by omega, by omega, by omega, S2, SHJ, Lib.hid (by rw [Nat.min_eq_left (by omega)]; exact ins_stop IJ.out haj (.inl HE.out))⟩
    · have hltz : ¬ (i : Int) < (b : Int) := by omega
      have HO : Hid (SortedK K a b Di) := by have := SO.out; rw [Nat.min_eq_right (by omega)] at this; exact this
      go_wp2
      go_end0
      exact ⟨rfl, Di, S1.out, SH.out, HO.out⟩
end Go.Proofs.Ytgfjfpfhalblgaa
