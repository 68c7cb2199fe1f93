/- What the function placed of package heap does: the numbers of the blocks that have words, by their places. -/
import Derived.Test.YtgfjfpfhalblgaaHSo
import Derived.Test.YtgfjfpfhalblgaaHPl
import Derived.Test.YtgfjfpfhalblgaaHMc
namespace Go.Proofs.Ytgfjfpfhalblgaa
set_option maxRecDepth 1000000
open Go.ChangeShapes Go.WideShapes Go.ChangeAt Go.RowKit

/-- Those of the blocks that have words. -/
def sizedL (B : List (Option Bk)) : List Nat := (idsB B).filter fun x => !decide (spL (look B x) = 0)
theorem sized_mem {B : List (Option Bk)} {k : Nat} : k ∈ sizedL B ↔ 0 < lenB B k := by
  rw [sizedL, List.mem_filter, ids_mem]
  constructor
  · rintro ⟨⟨b, hb⟩, h⟩
    rw [hb] at h
    simp [spL] at h
    rw [lenB_some hb]
    exact List.length_pos_iff.2 h
  · intro h
    obtain ⟨b, h1, h2, h3⟩ := len_some h
    refine ⟨⟨b, h1⟩, ?_⟩
    rw [h1]
    simp [spL]
    intro e
    rw [e] at h2; simp at h2; omega
/-- No more blocks have words than there are words. -/
theorem sized_cnt : ∀ B : List (Option Bk), ((List.range B.length).filter fun k => decide (0 < lenB B k)).length ≤ totB B
  | [] => Nat.le_refl _
  | o :: r => by
    have ih := sized_cnt r
    rw [List.length_cons, List.range_succ_eq_map, List.filter_cons, List.filter_map]
    have e : ((fun k => decide (0 < lenB (o :: r) k)) ∘ Nat.succ) = fun k => decide (0 < lenB r k) := by
      have e2 : ∀ k, lenB (o :: r) (k + 1) = lenB r k := fun k => by simp only [lenB, look_succ]
      funext k
      show decide (0 < lenB (o :: r) (k + 1)) = decide (0 < lenB r k)
      rw [e2 k]
    rw [e]
    cases o with
    | none =>
      have h0 : decide (0 < lenB (none :: r) 0) = false := by simp [lenB, look_zero]
      rw [h0]
      simpa [totB] using ih
    | some b =>
      have h1 : lenB (some b :: r) 0 = b.ws.length := rfl
      rw [h1]
      simp only [totB]
      by_cases h0 : 0 < b.ws.length
      · rw [if_pos (by simpa using h0), List.length_cons, List.length_map]; omega
      · rw [if_neg (by simpa using h0), List.length_map]; omega
theorem sized_few {n : Nat} {B : List (Option Bk)} (hg : GoodB n B) : (sizedL B).length ≤ n := by
  have h1 := cnt_tot hg
  have h2 := sized_cnt B
  have e : sizedL B = (List.range B.length).filter fun k => decide (0 < lenB B k) := by
    rw [sizedL, idsB, List.filter_filter]
    refine List.filter_congr fun k _ => ?_
    rw [Bool.eq_iff_iff]
    cases hb : look B k with
    | none => simp [lenB, hb]
    | some b => simp [lenB, hb, spL, Nat.pos_iff_ne_zero]
  rw [e]; omega
theorem sized_nodup (B : List (Option Bk)) : (sizedL B).Nodup := (ids_nodup B).filter _
theorem spA_at {B : List (Option Bk)} {k : Nat} (h : 0 < lenB B k) : spA (look B k) = (atB B k : Int) := by
  obtain ⟨b, h1, _, h3⟩ := len_some h
  rw [h1, ← h3]; rfl
theorem at_inj {n : Nat} {B : List (Option Bk)} (hg : GoodB n B) {i j : Nat} (hi : 0 < lenB B i) (hj : 0 < lenB B j) (hij : i ≠ j) : atB B i ≠ atB B j := fun e => by
  obtain ⟨bi, h1, h2, h3⟩ := len_some hi
  obtain ⟨bj, k1, k2, k3⟩ := len_some hj
  have := hg.apart i j bi bj bj.a hij h1 k1 (inB_iff.2 ⟨by omega, by omega⟩)
  exact inB_not.1 this ⟨Nat.le_refl _, by omega⟩
def keyB (B : List (Option Bk)) (k : Nat) : Int := spA (look B k)
theorem sized_keyd {n : Nat} {B : List (Option Bk)} (hg : GoodB n B) : Keyd (keyB B) B.length (sizedL B).length (fun i => (sizedL B).getD i 0) := by
  refine ⟨fun i hi => ?_, fun i j hi hj hij => ?_⟩
  · obtain ⟨b, h1, _⟩ := len_some (sized_mem.1 (getD_memN hi))
    exact look_lt h1
  · have pi := sized_mem.1 (getD_memN hi)
    have pj := sized_mem.1 (getD_memN hj)
    have hne : (sizedL B).getD i 0 ≠ (sizedL B).getD j 0 := fun e => by
      rw [List.getD, List.getD, List.getElem?_eq_getElem hi, List.getElem?_eq_getElem hj] at e
      have hp := List.pairwise_iff_getElem.1 (sized_nodup B)
      rcases Nat.lt_or_gt_of_ne hij with h | h
      · exact hp i j hi hj h (by simpa using e)
      · exact hp j i hj hi h (by simpa using e.symm)
    intro e
    simp only [keyB] at e
    rw [spA_at pi, spA_at pj] at e
    exact at_inj hg pi pj hne (by omega)
/-- The first m of D, as a row. -/
def rowN (D : Nat → Nat) (m : Nat) : List Nat := (List.range m).map D
theorem rowN_len (D : Nat → Nat) (m : Nat) : (rowN D m).length = m := by simp [rowN]
theorem rowN_get {D : Nat → Nat} {m j : Nat} (h : j < m) : (rowN D m).getD j 0 = D j := by simp [rowN, List.getD, h]
theorem placed_of {B : List (Option Bk)} {D' : Nat → Nat} (hs : Shuf 0 (sizedL B).length (fun i => (sizedL B).getD i 0) D') (ho : SortedK (keyB B) 0 (sizedL B).length D') : Placed B (rowN D' (sizedL B).length) := by
  have hpos : ∀ i, i < (sizedL B).length → 0 < lenB B (D' i) := fun i hi => by
    obtain ⟨j, _, hj, e⟩ := hs.to_ i (Nat.zero_le _) hi
    rw [e]; exact sized_mem.1 (getD_memN hj)
  refine ⟨fun k => ⟨fun h => ?_, fun h => ?_⟩, ?_⟩
  · obtain ⟨i, hi, rfl⟩ := List.mem_map.1 h
    exact hpos i (List.mem_range.1 hi)
  · obtain ⟨j, hj, he⟩ := List.mem_iff_getElem.1 (sized_mem.2 h)
    obtain ⟨i, _, hi, e⟩ := hs.fro j (Nat.zero_le _) hj
    refine List.mem_map.2 ⟨i, List.mem_range.2 hi, ?_⟩
    rw [← e]
    show (sizedL B).getD j 0 = k
    rw [List.getD, List.getElem?_eq_getElem hj]; exact he
  · rw [rowN, List.pairwise_map]
    refine List.Pairwise.imp_of_mem (R := (· < ·)) (fun {i j} hi hj hij => ?_) List.pairwise_lt_range
    have h1 := List.mem_range.1 hi
    have h2 := List.mem_range.1 hj
    have := ho i j (Nat.zero_le _) hij h2
    simp only [keyB] at this
    rw [spA_at (hpos i h1), spA_at (hpos j h2)] at this
    omega
/-- The row of the numbers S, in memory from base on, or nowhere. -/
def RowS (w : World) (base : Nat) (u : Value) (S : List Nat) : Prop := (S = [] ∧ u = .slice none 0 0) ∨ ∃ g cap, u = .slice (some ⟨g, 0, none⟩) S.length cap ∧ S.length ≤ cap ∧ base ≤ g ∧ g < w.heap.size ∧ RowIs w g S
def PlacedPost (B : List (Option Bk)) (w : World) (e : Ending) (w' : World) : Prop := ∃ S u, e = .returned u ∧ Placed B S ∧ S.length ≤ B.length ∧ RowS w' w.heap.size u S ∧ Below w.heap.size w w'
theorem row_own {w : World} {base g cap : Nat} {l : List Nat} (h : w.ownsRow base 3 1 (.slice (some ⟨g, 0, none⟩) l.length cap) l.length (valsN l)) : RowIs w g l := fun j hj => by
  refine ⟨?_, h.frozenAt j⟩
  rw [h.cellAt _ (by omega), valsN, List.getElem?_map, List.getElem?_eq_getElem hj, List.getD, List.getElem?_eq_getElem hj]
  rfl
theorem eg32 : ∀ args w, (callFunc 32 args).run Try.prog w = .ok (.enter 32 args) w := enters_of Try.func32 (by kernel_rfl) rfl
theorem delete_nil (fv : Value) (w : World) (hI : Calls Try.prog 30 #[.slice none 0 0, fv] w fun e w' => e = .returned (.int .i64 (-1)) ∧ w = w') :
    Calls Try.prog 31 #[.slice none 0 0, fv] w fun e w' => e = .returned (.slice none 0 0) ∧ w = w' := by
  have HI := Lib.hid hI
  clear hI
  go_enter Try.func31, Try.ntmps31
  go_wp2_with fail
  refine HI.out.mono ?_
  rintro e w1 ⟨rfl, rfl⟩
  go_wp2_with fail
  go_ret
  exact ⟨rfl, rfl⟩
theorem index_nil (lb : Array Value) (w : World) : Calls Try.prog 30 #[.slice none 0 0, .func (.func 32) #[] lb] w fun e w' => e = .returned (.int .i64 (-1)) ∧ w = w' := by
  have hI : Ints (fun _ => True) w (.slice none 0 0) [] := ⟨none, 0, rfl, Nat.le_refl _, .inl rfl⟩
  refine (index_any 32 lb eg32 (fun _ => false) _ _ w hI (by simp) (fun x hx => by cases hx)).mono ?_
  rintro e w1 ⟨r, rfl, hr, rfl⟩
  rcases hr with ⟨rfl, _⟩ | ⟨k, hk, _⟩
  · exact ⟨rfl, rfl⟩
  · simp at hk
section
variable {w : World} {c : Hp} {v : Value} {n nx : Nat} {B : List (Option Bk)} {V : Nat → Int}
theorem cmp_ok {w3 : World} {g : Nat} (h : HeapM w3 c v n B nx V) (hg : ∀ k, HF c v k → ¬ k = g) : CmpOk w3 g (keyB B) B.length (.pointer (some ⟨c.h, 0, none⟩)) := fun _ x y ho hx hy => compare_any x y (h.only ho hg) hx hy
set_option maxHeartbeats 4000000 in
theorem placed_any (h : HeapAt w c v n B) : Calls Try.prog 29 #[.pointer (some ⟨c.h, 0, none⟩)] w (PlacedPost B w) := by
  have HH := Lib.hid h
  have few := h.m.few
  have hlt := h.m.lt
  have hilen : (idsB B).length ≤ B.length := idsTo_len B B.length
  clear h
  go_enter Try.func29, Try.ntmps29
  go_wp2_with fail
  have B1 : Hid (Below w.heap.size w (w.alloc (.cells #[.pointer (some ⟨c.h, 0, none⟩)] 25))) := (Below.refl _ _).alloc (Nat.le_refl _) _
  have C1 : Hid ((w.alloc (.cells #[.pointer (some ⟨c.h, 0, none⟩)] 25)).cell? ⟨w.heap.size, 0, none⟩ = some (.pointer (some ⟨c.h, 0, none⟩)) ∧ w.heap.size < (w.alloc (.cells #[.pointer (some ⟨c.h, 0, none⟩)] 25)).heap.size) :=
    ⟨by rw [World.cell?_alloc_at _ _ _ _ rfl]; rfl, by simp⟩
  generalize w.alloc (.cells #[.pointer (some ⟨c.h, 0, none⟩)] 25) = w1 at B1 C1 ⊢
  have H1 := Lib.hid (HH.out.fresh B1.out)
  have c1 := C1.out.1
  go_wp2_with fail
  refine (blocks_any H1.out.m).mono ?_
  rintro e w2 ⟨u, rfl, own2, b2⟩
  have O2 := Lib.hid own2
  have B2 := Lib.hid (B1.out.trans (b2.mono (Nat.le_of_lt C1.out.2)))
  have H2 := Lib.hid (H1.out.fresh b2)
  have C2 : Hid (w2.cell? ⟨w.heap.size, 0, none⟩ = some (.pointer (some ⟨c.h, 0, none⟩)) ∧ w.heap.size < w2.heap.size ∧ w.heap.size < w1.heap.size) :=
    ⟨(b2.cell (p := ⟨w.heap.size, 0, none⟩) C1.out.2).trans c1, Nat.lt_of_lt_of_le C1.out.2 b2.size, C1.out.2⟩
  clear b2 c1
  rcases own2.2 with ⟨rfl, h0⟩ | ⟨g, cap, cur, rfl, hb, hg, hn, _⟩
  · have e0 : sizedL B = [] := by rw [sizedL, List.eq_nil_of_length_eq_zero h0]; rfl
    have PL : Hid (Placed B []) := ⟨fun k => by rw [← sized_mem, e0], List.Pairwise.nil⟩
    clear own2 e0 O2
    go_wp2_with fail
    refine (delete_nil _ w2 (index_nil _ w2)).mono ?_
    rintro e w3 ⟨rfl, rfl⟩
    have c2 := C2.out.1
    go_wp2_with fail
    refine (sort_nil _ w2).mono ?_
    rintro e w3 ⟨rfl, rfl⟩
    go_wp2_with fail
    go_ret
    exact ⟨[], _, rfl, PL.out, Nat.zero_le _, .inl ⟨rfl, rfl⟩, B2.out⟩
  · have hgs : g < w2.heap.size := (Array.getElem?_eq_some_iff.1 hg).1
    have hgw : w.heap.size < g := by have := C2.out.2.2; omega
    have hgc : ∀ k, HF c v k → ¬ k = g := fun k hk e => by have := HF_lt HH.out.m k hk; omega
    have HGC := Lib.hid hgc
    have HRW := Lib.hid (row_own own2)
    have HD := Lib.hid (delete_any 32 #[.pointer (some ⟨w.heap.size, 0, none⟩)] eg32 (fun x => decide (spL (look B x) = 0)) g cap (idsB B) w2 HRW.out (by omega) (by omega) (fun _w' ho x hx => by
      obtain ⟨b, hb⟩ := ids_mem.1 hx
      exact sized_any x w.heap.size (H2.out.m.only ho hgc) (look_lt hb) ((ho.cell (p := ⟨w.heap.size, 0, none⟩) C2.out.2.1 (by show ¬ w.heap.size = g; omega)).trans C2.out.1)))
    clear own2 hb hg hgc O2
    go_wp2_with fail
    refine HD.out.mono ?_
    rintro e w3 ⟨rfl, hr3, ho3⟩
    have hr3 : RowIs w3 g (sizedL B) := hr3
    have HSL : Hid (((idsB B).filter fun x => !decide (spL (look B x) = 0)) = sizedL B) := rfl
    rw [HSL.out]
    have hsl : (sizedL B).length ≤ 1000000 := by
      have := sized_few HH.out.good
      have := HH.out.m.small
      omega
    have hslc : (sizedL B).length ≤ cap := by
      have : (sizedL B).length ≤ (idsB B).length := List.length_filter_le _ _
      omega
    have c3 : w3.cell? ⟨w.heap.size, 0, none⟩ = some (.pointer (some ⟨c.h, 0, none⟩)) := (ho3.cell (p := ⟨w.heap.size, 0, none⟩) C2.out.2.1 (by show ¬ w.heap.size = g; omega)).trans C2.out.1
    have HS : Hid (Calls Try.prog 33 #[.slice (some ⟨g, 0, none⟩) (sizedL B).length cap, .func (.func 34) #[.pointer (some ⟨c.h, 0, none⟩)] #[]] w3 (SortPost w3 g 0 (sizedL B).length (keyB B) B.length 0 (sizedL B).length (fun i => (sizedL B).getD i 0))) :=
      Lib.hid (sort_any w3 g 0 (sizedL B).length cap B.length (keyB B) _ (cmp_ok (H2.out.m.only ho3 HGC.out) HGC.out) hsl _ w3 ⟨fun i hi => by rw [Nat.zero_add]; exact hr3 i hi, Only.refl _ _, sized_keyd HH.out.good, Nat.lt_of_lt_of_le hgs ho3.size⟩)
    have O3 := Lib.hid ho3
    have HSB : Hid ((sizedL B).length ≤ B.length) := by
      have : (sizedL B).length ≤ (idsB B).length := List.length_filter_le _ _
      exact Nat.le_trans this hilen
    clear hr3 ho3 HD HRW
    generalize hsz : (sizedL B).length = m at hslc HS ⊢
    have HSZ := Lib.hid hsz
    clear hsz hsl HSL
    go_wp2_with fail
    refine HS.out.mono ?_
    rintro e w4 ⟨rfl, D', s4, sh4, so4⟩
    have S4 := Lib.hid s4
    have PL : Hid (Placed B (rowN D' m)) := by
      have e := HSZ.out
      subst e
      exact placed_of sh4 so4
    clear s4 sh4 so4
    go_wp2_with fail
    go_ret
    refine ⟨rowN D' m, .slice (some ⟨g, 0, none⟩) m cap, rfl, PL.out, by rw [rowN_len, ← HSZ.out]; exact HSB.out, .inr ⟨g, cap, by rw [rowN_len], by rw [rowN_len]; exact hslc, Nat.le_of_lt hgw, S4.out.lt, fun j hj => ?_⟩, ?_⟩
    · rw [rowN_len] at hj
      have := S4.out.row j hj
      rw [Nat.zero_add] at this
      rw [rowN_get hj]; exact this
    · have o4 : Only (· = g) w2 w4 := O3.out.then_ S4.out.on (fun _ _ h => h)
      exact B2.out.trans (o4.below (fun i hi e => by omega) (Nat.le_of_lt C2.out.2.1))
end
end Go.Proofs.Ytgfjfpfhalblgaa
