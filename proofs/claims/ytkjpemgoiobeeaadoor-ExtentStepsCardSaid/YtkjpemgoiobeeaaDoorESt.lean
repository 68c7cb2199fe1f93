/- What the function store of package extent does. No condition but those that each statement names. -/
import Derived.Test.YtkjpemgoiobeeaaDoorESp
import Derived.Laws.ResultCell
namespace Go.Proofs.YtkjpemgoiobeeaaDoor
set_option maxRecDepth 1000000
open Go.ChangeShapes Go.WideShapes Go.ChangeAt Go.RowKit

/-- The disk's bytes behind k writes of xs from the sector f on. -/
def wrt (D : Nat → Int) (f : Nat) (xs : List Int) : Nat → Nat → Int
  | 0 => D
  | k + 1 => put (wrt D f xs k) (f + k) ((xs.drop (64 * k)).take 64)
theorem getD_cut (xs : List Int) (a q : Nat) (hq : q < 64) : ((xs.drop a).take 64).getD q 0 = xs.getD (a + q) 0 := by
  simp only [List.getD]
  rw [List.getElem?_take, if_pos hq, List.getElem?_drop]
theorem wrt_at (D : Nat → Int) (f : Nat) (xs : List Int) : ∀ (k p : Nat), wrt D f xs k p = if 64 * f ≤ p ∧ p < 64 * (f + k) then xs.getD (p - 64 * f) 0 else D p
  | 0, p => by rw [if_neg (by omega)]; rfl
  | k + 1, p => by
    simp only [wrt, put]
    by_cases h : 64 * (f + k) ≤ p ∧ p < 64 * (f + k) + 64
    · rw [if_pos h, if_pos (by omega), getD_cut _ _ _ (by omega)]
      congr 1
      omega
    · rw [if_neg h, wrt_at D f xs k p]
      by_cases h2 : 64 * f ≤ p ∧ p < 64 * (f + k)
      · rw [if_pos h2, if_pos (by omega)]
      · rw [if_neg h2, if_neg (by omega)]
theorem wrt_holds {D : Nat → Int} {R : List Row} {r : Row} (h : Holds D R) (ho : ∀ q ∈ R, Off q r) : Holds (wrt D r.1 r.2 (len r)) (R ++ [r]) := by
  intro q hq j hj
  rw [wrt_at]
  rcases List.mem_append.1 hq with hq | hq
  · have h1 := ho q hq
    have h2 := secs_le q.2.length
    unfold Off at h1
    have h3 : secs q.2.length = len q := rfl
    rw [if_neg (by omega)]
    exact h q hq j hj
  · rw [List.mem_singleton] at hq
    subst hq
    have h2 := secs_le q.2.length
    have h3 : secs q.2.length = len q := rfl
    rw [if_pos (by omega)]
    congr 1
    omega
theorem cut_bytes {xs : List Int} (h : Bytes xs) (a : Nat) : Bytes ((xs.drop a).take 64) := fun n hn => h n (List.mem_of_mem_drop (List.mem_of_mem_take hn))

theorem bts_sub {N : Nat → Prop} {w : World} {b off l c : Nat} {xs : List Int} (h : Bts N w (.slice (some ⟨b, off, none⟩) l c) xs) (o m c' : Nat) (hm : o + m ≤ l) (hc : m ≤ c') :
    Bts N w (.slice (some ⟨b, off + o, none⟩) m c') ((xs.drop o).take m) := by
  obtain ⟨a, c0, he, _, h⟩ := h
  injection he with e1 e2 e3
  subst e1
  rw [List.length_map] at e2
  have hl : ((xs.drop o).take m).length = m := by rw [List.length_take, List.length_drop]; omega
  refine ⟨_, c', by rw [List.length_map, hl], by rw [List.length_map, hl]; exact hc, ?_⟩
  rcases h with h | ⟨b', off', ha, hb, h⟩
  · left
    rw [List.map_eq_nil_iff] at h
    subst h
    simp
  · injection ha with ha
    injection ha with e4 e5
    subst e4 e5
    refine .inr ⟨b, off + o, rfl, hb, fun j u hu => ?_⟩
    rw [Nat.add_assoc]
    refine h (o + j) u ?_
    rw [List.getElem?_map, List.getElem?_take] at hu
    rw [List.getElem?_map]
    split at hu
    · rw [List.getElem?_drop] at hu; exact hu
    · cases hu

/-- Three numbers in a block. -/
def Box3 (w : World) (p : Nat) (a b c : Int) : Prop :=
  w.cell? ⟨p, 0, none⟩ = some (.int .i64 a) ∧ w.cell? ⟨p, 1, none⟩ = some (.int .i64 b) ∧ w.cell? ⟨p, 2, none⟩ = some (.int .i64 c) ∧ (∀ j, w.frozen? ⟨p, j, none⟩ = false) ∧ p < w.heap.size
theorem Box3.only {w w' : World} {p : Nat} {a b c : Int} {F : Nat → Prop} (h : Box3 w p a b c) (o : Only F w w') (hF : ¬ F p) : Box3 w' p a b c :=
  ⟨(o.cell (p := ⟨p, 0, none⟩) h.2.2.2.2 hF).trans h.1, (o.cell (p := ⟨p, 1, none⟩) h.2.2.2.2 hF).trans h.2.1, (o.cell (p := ⟨p, 2, none⟩) h.2.2.2.2 hF).trans h.2.2.1, fun j => (o.frozen (p := ⟨p, j, none⟩) h.2.2.2.2 hF).trans (h.2.2.2.1 j), Nat.lt_of_lt_of_le h.2.2.2.2 o.size⟩
theorem Box3.fresh {w w' : World} {p : Nat} {a b c : Int} (h : Box3 w p a b c) (o : Below w.heap.size w w') : Box3 w' p a b c := h.only (F := fun _ => False) (Only.of_below o) id
theorem box3_new (w : World) (a b c : Int) (t : TypeId) : Box3 (w.alloc (.cells #[.int .i64 a, .int .i64 b, .int .i64 c] t)) w.heap.size a b c := by
  refine ⟨?_, ?_, ?_, fun j => frozen_top w _ _ j, by simp⟩
  · rw [World.cell?_alloc_at _ _ _ _ rfl]; rfl
  · rw [World.cell?_alloc_at _ _ _ _ rfl]; rfl
  · rw [World.cell?_alloc_at _ _ _ _ rfl]; rfl

theorem wf_of {n : Int} (h1 : -9223372036854775808 ≤ n) (h2 : n ≤ 9223372036854775807) : (Lit.int .i64 n).wf = true := by
  have e1 : IntKind.i64.min = -9223372036854775808 := rfl
  have e2 : IntKind.i64.max = 9223372036854775807 := rfl
  simp only [Lit.wf, Bool.and_eq_true, decide_eq_true_eq]
  omega

theorem Box3.put {w : World} {p : Nat} {a b c : Int} (h : Box3 w p a b c) (a' b' c' : Int) :
    Box3 (((w.setCell ⟨p, 0, none⟩ (.int .i64 a')).setCell ⟨p, 1, none⟩ (.int .i64 b')).setCell ⟨p, 2, none⟩ (.int .i64 c')) p a' b' c' := by
  obtain ⟨h1, h2, h3, h4, h5⟩ := h
  refine ⟨?_, ?_, ?_, fun j => ?_, by simpa [World.setCell] using h5⟩
  · rw [World.cell?_setCell_other _ _ _ _ (by simp), World.cell?_setCell_other _ _ _ _ (by simp), World.cell?_setCell_same _ _ _ h1]
  · rw [World.cell?_setCell_other _ _ _ _ (by simp), World.cell?_setCell_same _ _ _ ((World.cell?_setCell_other _ _ _ _ (by simp)).trans h2)]
  · rw [World.cell?_setCell_same _ _ _ ((World.cell?_setCell_other _ _ _ _ (by simp)).trans ((World.cell?_setCell_other _ _ _ _ (by simp)).trans h3))]
  · rw [World.frozen?_setCell, World.frozen?_setCell, World.frozen?_setCell]; exact h4 j
theorem put3_only {w : World} {p : Nat} {a' b' c' : Int} {F : Nat → Prop} {w0 : World} (h : Only F w0 w) (hp : F p ∨ w0.heap.size ≤ p) :
    Only F w0 (((w.setCell ⟨p, 0, none⟩ (.int .i64 a')).setCell ⟨p, 1, none⟩ (.int .i64 b')).setCell ⟨p, 2, none⟩ (.int .i64 c')) :=
  ((h.setCell ⟨p, 0, none⟩ hp _).setCell ⟨p, 1, none⟩ hp _).setCell ⟨p, 2, none⟩ hp _
theorem load_box {w : World} {b : Nat} {x y z : Int} (hb : Box3 w b x y z) : (loadVar 32 ⟨b, 0, none⟩).run Tryd.prog w = .ok (.agg #[.int .i64 x, .int .i64 y, .int .i64 z]) w := by
  obtain ⟨h1, h2, h3, _, _⟩ := hb
  go_simp
theorem res_box {fn : Func} {p : Tmp} (h : fn.results = #[.cell p 32]) {tmps : Array Value} {w : World} {b : Nat} {x y z : Int} (hp : tmps.getD p undef = .pointer (some ⟨b, 0, none⟩)) (hb : Box3 w b x y z) :
    (results fn tmps).run Tryd.prog w = .ok (.agg #[.int .i64 x, .int .i64 y, .int .i64 z]) w := by
  simp only [results, h]
  rw [Array.getD_eq_getD_getElem?] at hp
  simp [hp, asAddr, load_box hb]
theorem res_box2 {fn : Func} {p u : Tmp} (h : fn.results = #[.cell p 32, .tmp u]) {tmps : Array Value} {w : World} {b : Nat} {x y z : Int} (hp : tmps.getD p undef = .pointer (some ⟨b, 0, none⟩)) (hb : Box3 w b x y z) :
    (results fn tmps).run Tryd.prog w = .ok (.tuple #[.agg #[.int .i64 x, .int .i64 y, .int .i64 z], tmps.getD u undef]) w := by
  rw [results_cell_tmp h, hp]
  simp [Result.andThen, asAddr, load_box hb]

def StInv (dm lo n r c : Nat) (D : Nat → Int) (w wr : World) : Prop := DiskAt wr dm lo n r c D ∧ Only (dk dm lo) w wr
def StPost (s : Sp) (n u : Nat) (R : List Row) (f : Nat) (xs : List Int) (w : World) (e : Ending) (w' : World) : Prop :=
  e = .returned (.agg #[.int .i64 f, .int .i64 (secs xs.length), .int .i64 xs.length]) ∧ SpaceAt w' s n (u + 1) (R ++ [(f, xs)]) ∧ Only s.F w w'

/-- The loop's bytes: what is left of the slice behind k rounds. -/
def Left (N : Nat → Prop) (w : World) (xs : List Int) (q k : Nat) (v : Value) : Prop := k < q → Bts N w v (xs.drop (64 * k))

set_option maxHeartbeats 2000000 in
theorem store_any {N : Nat → Prop} (s : Sp) (n u : Nat) (R : List Row) (f : Nat) (v : Value) (xs : List Int) (w : World) (h : SpaceAt w s n u R) (hv : Bts N w v xs) (hN : ∀ b, N b → ¬ s.F b) (hy : Bytes xs)
    (hr : f + secs xs.length ≤ n) (hfree : ∀ k, k < secs xs.length → tk R (f + k) = false) (hu : u ≤ 100000000000000) :
    Calls Tryd.prog 28 #[.pointer (some ⟨s.sp, 0, none⟩), .int .i64 f, v] w (StPost s n u R f xs w) := by
  have HS := Lib.hid h
  have HV := Lib.hid hv
  have HN := Lib.hid hN
  obtain ⟨r, c, D, hd, hr0, hc0, hh⟩ := h.disk
  have HD := Lib.hid hd
  have HH := Lib.hid hh
  have hsm := h.small
  obtain ⟨a, cp, rfl, hcp, hcell⟩ := hv
  have ha : 0 < xs.length → ∃ b off, a = some ⟨b, off, none⟩ := fun h0 => by
    rcases hcell with e | ⟨b, off, e, _⟩
    · simp at e; subst e; simp at h0
    · exact ⟨b, off, e⟩
  have HA := Lib.hid ha
  rw [List.length_map] at hcp HV ⊢
  have hl := secs_le xs.length
  have hl2 := secs_lt xs.length
  have hl1 := secs_pos xs.length
  have HX := Lib.hid (sectors_any xs.length)
  generalize hq : secs xs.length = q at *
  have HQ := Lib.hid hq
  have HF : Hid (cnt (tk R) f q = 0) := cnt_none hfree
  have HFR := Lib.hid hfree
  clear h hd hh hcell hN hfree hq ha
  go_enter Tryd.func28, Tryd.ntmps28
  go_wp2_with fail
  refine (HX.out _ (by omega)).mono ?_
  rintro e w1 ⟨rfl, rfl⟩
  go_wp2_with fail
  have X6 : Hid (Box3 ((w.alloc (.cells #[.int .i64 0, .int .i64 0, .int .i64 0] 32)).alloc (.cells #[.int .i64 f, .int .i64 q, .int .i64 xs.length] 32)) w.heap.size 0 0 0) :=
    (box3_new w 0 0 0 32).fresh ((Below.refl _ _).alloc (Nat.le_refl _) _)
  have X7 : Hid (Box3 ((w.alloc (.cells #[.int .i64 0, .int .i64 0, .int .i64 0] 32)).alloc (.cells #[.int .i64 f, .int .i64 q, .int .i64 xs.length] 32)) (w.heap.size + 1) f q xs.length) := by
    have := box3_new (w.alloc (.cells #[.int .i64 0, .int .i64 0, .int .i64 0] 32)) f q xs.length 32
    rwa [World.size_alloc] at this
  have BW : Hid (Below w.heap.size w ((w.alloc (.cells #[.int .i64 0, .int .i64 0, .int .i64 0] 32)).alloc (.cells #[.int .i64 f, .int .i64 q, .int .i64 xs.length] 32))) := ((Below.refl _ _).alloc (Nat.le_refl _) _).alloc (by simp) _
  generalize (w.alloc (.cells #[.int .i64 0, .int .i64 0, .int .i64 0] 32)).alloc (.cells #[.int .i64 f, .int .i64 q, .int .i64 xs.length] 32) = w0 at X6 X7 BW ⊢
  refine (places_any f q _ _ (by omega) (by omega)).mono ?_
  rintro e w1 ⟨g, rfl, hg, hgl, hI, hb⟩
  have hgw : w.heap.size ≤ g := Nat.le_trans BW.out.size hg
  have X6 : Hid (Box3 w1 w.heap.size 0 0 0) := X6.out.fresh hb
  have X7 : Hid (Box3 w1 (w.heap.size + 1) f q xs.length) := X7.out.fresh hb
  have BW : Hid (Below w.heap.size w w1) := BW.out.trans (hb.mono BW.out.size)
  have HI := Lib.hid hI
  have HG := Lib.hid hgw
  clear hI hb hg hgw
  obtain ⟨p6, hp6⟩ : ∃ p, w.heap.size = p := ⟨_, rfl⟩
  obtain ⟨p7, hp7⟩ : ∃ p, w.heap.size + 1 = p := ⟨_, rfl⟩
  have HP := Lib.hid (And.intro hp6 hp7)
  have HL : Hid (SpaceAt w1 s n u R) := HS.out.fresh BW.out
  rw [hp7] at X7 ⊢
  rw [hp6] at BW X6 HG ⊢
  clear hp6 hp7
  go_wp2_with fail
  have HD1 : Hid (DiskAt w1 s.dm s.lo n r c D) := HD.out.fresh (by rw [HP.out.1]; exact BW.out)
  go_loopw [2, 21] (fun v i wr => ∃ k : Nat, k ≤ q ∧ i = .int .i64 k ∧ Left N w1 xs q k v ∧ StInv s.dm s.lo n r (c + k) (wrt D f xs k) w1 wr) (fun _ i _ => q - (intOf i).toNat)
  case atStart =>
    exact ⟨0, Nat.zero_le _, rfl, fun _ => Bts.only HV.out (Only.of_below (F := fun _ => False) (by rw [HP.out.1]; exact BW.out)) (fun _ _ h => h), HD1.out, Only.refl _ _⟩
  case round =>
    obtain ⟨k, hk, rfl, hlf, hd, ho⟩ := hrel
    by_cases hlt : k < q
    · have hs := HL.out
      obtain ⟨o0, o1, o2, o3, o4, o5⟩ := hs.ord
      have c0 := (ho.cell (p := ⟨s.sp, 0, none⟩) hs.lt (by show ¬ (s.sp = s.dm ∨ s.sp = s.lo); omega)).trans hs.c0
      have hlw := HS.out.lt
      have hp6 := HP.out.1
      have hgk : wr.cell? ⟨g, k, none⟩ = some (.int .i64 ((f + k : Nat) : Int)) := by
        have hg := HG.out
        have := (Vals.only HI.out ho (fun b hb => by subst hb; show ¬ (b = s.dm ∨ b = s.lo); omega))
        obtain ⟨b', off', c', e1, _, _, _, h3⟩ := Vals.at_ (k := k) this (by rw [List.length_map, run_len]; exact hlt)
        injection e1 with e1
        injection e1 with e1
        injection e1 with e1 e2
        subst e1 e2
        rw [List.getElem_map] at h3
        rw [Nat.zero_add] at h3
        rw [h3]
        congr 2
        have := run_get f q k hlt
        rw [List.getElem?_eq_getElem (by rw [run_len]; exact hlt)] at this
        exact Option.some.inj this
      obtain ⟨i, hi⟩ : ∃ i, f + k = i := ⟨_, rfl⟩
      have HIi := Lib.hid hi
      rw [hi] at hgk
      have hin : i < n := by omega
      have HKP : Hid (∀ v ys, Bts N w1 v ys → Bts N wr v ys) := fun v ys hb => Bts.only hb ho (fun b hb e => HN.out b hb (by
        rcases e with e | e
        · exact ⟨by omega, by omega⟩
        · exact ⟨by omega, by omega⟩))
      have HW := Lib.hid (fun v bs (hb : Bts N wr.drew v bs) hy hl => write_yes s.dm s.lo n r (c + k) (wrt D f xs k) i v bs wr.drew (hd.heap rfl) hin (by omega) hb hy hl)
      have HO := Lib.hid ho
      have HLF := Lib.hid hlf
      clear hs hd ho hlf o0 o1 o2 o3 o4 o5 hlw hp6 hi
      have hb1 := HLF.out hlt
      obtain ⟨a', C, rfl, hLC⟩ := hb1.form
      have hb1' := hb1
      obtain ⟨_, _, he, _, hcells⟩ := hb1'
      have hA' : 64 < (xs.drop (64 * k)).length → ∃ b off, a' = some ⟨b, off, none⟩ := fun hl => by
        injection he with e1 e2 e3
        subst e1
        rcases hcells with hz | ⟨b, off, e, _⟩
        · rw [List.map_eq_nil_iff] at hz
          rw [hz] at hl
          simp at hl
        · exact ⟨b, off, e⟩
      have HB1 := Lib.hid hb1
      have hL := List.length_drop (i := 64 * k) (l := xs)
      clear hb1 he hcells
      obtain ⟨L, hLe⟩ : ∃ L, (xs.drop (64 * k)).length = L := ⟨_, rfl⟩
      rw [hLe] at HB1 hL hA' hLC ⊢
      by_cases hlast : L ≤ 64
      · have hmin : min (L : Int) 64 = L := by omega
        have HB : Hid (Bts N wr.drew (.slice a' L C) ((xs.drop (64 * k)).take 64)) := by
          show Bts _ _ _ _
          rw [List.take_of_length_le (by omega)]
          exact Bts.heap (HKP.out _ _ HB1.out) rfl
        have hlq : k + 1 = q := by have := HQ.out; unfold secs at this; omega
        clear hLe hL hA'
        go_wp2_with fail
        go_still_tail 8, (by kernel_rfl)
        change wpList _ _ _ _ _ wr.drew
        go_wp2_with fail
        refine (HW.out _ _ HB.out (cut_bytes hy _) (by rw [List.length_take]; omega)).mono ?_
        rintro e w3 ⟨rfl, d3, o3⟩
        have D3 := Lib.hid d3
        have O3 : Hid (Only (dk s.dm s.lo) w1 w3) := HO.out.then_ (Only.then_ (F := dk s.dm s.lo) (Only.of_below (below_drewN wr wr.heap.size 1)) o3 (fun _ _ h => h)) (fun _ _ h => h)
        clear d3 o3
        go_wp2_with fail
        go_roundw
        case rel => exact ⟨k + 1, by omega, by go_num, fun h => by omega, by show DiskAt _ _ _ _ _ _ (put _ (f + k) _); rw [HIi.out]; exact D3.out, O3.out⟩
        case measure => simp [intOf]; omega
      · obtain ⟨b, o, rfl⟩ := hA' (by omega)
        have hmin : min (L : Int) 64 = 64 := by omega
        have HB : Hid (Bts N wr.drew (.slice (some ⟨b, o, none⟩) 64 C) ((xs.drop (64 * k)).take 64)) := bts_sub (Bts.heap (HKP.out _ _ HB1.out) rfl) 0 64 C (by omega) (by omega)
        have HB2 : Hid (Bts N w1 (.slice (some ⟨b, o + 64, none⟩) (L - 64) (C - 64)) (xs.drop (64 * (k + 1)))) := by
          have := bts_sub HB1.out 64 (L - 64) (C - 64) (by omega) (by omega)
          rwa [List.drop_drop, List.take_of_length_le (by rw [List.length_drop]; omega), show 64 * k + 64 = 64 * (k + 1) by omega] at this
        have h64 : (64 : Int) ≤ L := by omega
        have h67 : (64 : Int) ≤ C := by omega
        have h65 : ¬ C = 64 := by omega
        have h66 : ¬ 64 = C := by omega
        clear hLe hL hA'
        go_wp2_with fail
        go_still_tail 8, (by kernel_rfl)
        change wpList _ _ _ _ _ wr.drew
        go_wp2_with fail
        refine (HW.out _ _ HB.out (cut_bytes hy _) (by rw [List.length_take]; omega)).mono ?_
        rintro e w3 ⟨rfl, d3, o3⟩
        have D3 := Lib.hid d3
        have O3 : Hid (Only (dk s.dm s.lo) w1 w3) := HO.out.then_ (Only.then_ (F := dk s.dm s.lo) (Only.of_below (below_drewN wr wr.heap.size 1)) o3 (fun _ _ h => h)) (fun _ _ h => h)
        clear d3 o3
        go_wp2_with fail
        go_roundw
        case rel => exact ⟨k + 1, by omega, by go_num, fun h => HB2.out, by show DiskAt _ _ _ _ _ _ (put _ (f + k) _); rw [HIi.out]; exact D3.out, O3.out⟩
        case measure => simp [intOf]; omega
    · obtain rfl : k = q := by omega
      have HDk := Lib.hid hd
      have hs := HL.out
      obtain ⟨o0, o1, o2, o3, o4, o5⟩ := hs.ord
      have hlw := HS.out.lt
      have hp6 := HP.out.1
      have hp7 := HP.out.2
      have c1 := (ho.cell (p := ⟨s.sp, 1, none⟩) hs.lt (by show ¬ (s.sp = s.dm ∨ s.sp = s.lo); omega)).trans hs.c1
      have c2 := (ho.cell (p := ⟨s.sp, 2, none⟩) hs.lt (by show ¬ (s.sp = s.dm ∨ s.sp = s.lo); omega)).trans hs.c2
      have x7 := X7.out.only ho (by show ¬ (p7 = s.dm ∨ p7 = s.lo); omega)
      have X7 := Lib.hid x7
      have X6 : Hid (Box3 wr p6 0 0 0) := X6.out.only ho (by show ¬ (p6 = s.dm ∨ p6 = s.lo); omega)
      obtain ⟨x1, x2, x3, _, _⟩ := x7
      have hM := hs.map.only ho (by show ¬ (s.bm = s.dm ∨ s.bm = s.lo); omega) (by show ¬ (s.bx = s.dm ∨ s.bx = s.lo); omega)
      have HT := Lib.hid (take_yes s.bm s.bx n (tk R) f k wr.drew (hM.heap rfl) hl1 hr HF.out)
      have HO : Hid (Only s.F w wr) := (Only.of_below (by rw [hp6]; exact BW.out) : Only s.F w w1).then_ ho (fun i _ h => by
        rcases h with h | h
        · exact ⟨by omega, by omega⟩
        · exact ⟨by omega, by omega⟩)
      have HLV : Hid (LiveAt wr s.lm u (isX R)) := hs.live.only ho (by show ¬ (s.lm = s.dm ∨ s.lm = s.lo); omega)
      have C2 := Lib.hid c2
      have HSPR : Hid (∀ j, wr.cell? ⟨s.sp, j, none⟩ = w.cell? ⟨s.sp, j, none⟩) := fun j => by
        rw [ho.cell (p := ⟨s.sp, j, none⟩) hs.lt (by show ¬ (s.sp = s.dm ∨ s.sp = s.lo); omega)]
        exact BW.out.cell (p := ⟨s.sp, j, none⟩) (by show s.sp < _; omega)
      clear hd ho hlf hs hM c2 o0 o1 o2 o3 o4 o5 hlw hp6 hp7
      go_wp2_with fail
      go_still_tail 8, (by kernel_rfl)
      change wpList _ _ _ _ _ wr.drew
      go_wp2_with fail
      refine HT.out.mono ?_
      rintro e w4 ⟨rfl, m4, b4⟩
      have hs := HL.out
      obtain ⟨o0, o1, o2, o3, o4, o5⟩ := hs.ord
      have hlw := HS.out.lt
      have hp6 := HP.out.1
      have hp7 := HP.out.2
      have hwz := HO.out.size
      have ob4 : Only (· = s.bx) wr w4 := Only.then_ (F := (· = s.bx)) (Only.of_below (below_drewN wr wr.heap.size 1)) (Only.of_but b4) (fun _ _ h => h)
      have c2 := (ob4.cell (p := ⟨s.sp, 2, none⟩) (by show s.sp < _; omega) (by show ¬ s.sp = s.bx; omega)).trans C2.out
      have x7 := X7.out.only ob4 (by show ¬ p7 = s.bx; omega)
      have X6 : Hid (Box3 w4 p6 0 0 0) := X6.out.only ob4 (by show ¬ p6 = s.bx; omega)
      have X7 := Lib.hid x7
      obtain ⟨x1, x2, x3, _, _⟩ := x7
      have M4 := Lib.hid m4
      have D4 : Hid (DiskAt w4 s.dm s.lo n r (c + k) (wrt D f xs k)) := HDk.out.only ob4 (by show ¬ s.dm = s.bx; omega) (by show ¬ s.lo = s.bx; omega)
      have O4 : Hid (Only s.F w w4) := HO.out.then_ ob4 (fun i _ h => ⟨by omega, by omega⟩)
      have HSP : Hid (∀ j, w4.cell? ⟨s.sp, j, none⟩ = w.cell? ⟨s.sp, j, none⟩) := fun j => by
        rw [ob4.cell (p := ⟨s.sp, j, none⟩) (by show s.sp < _; omega) (by show ¬ s.sp = s.bx; omega)]
        exact HSPR.out j
      have L4 : LiveAt w4.drew s.lm u (isX R) := (HLV.out.only ob4 (by show ¬ s.lm = s.bx; omega)).heap rfl
      have hxl : xs.length ≤ 1280000 := by omega
      obtain ⟨w5, hst, l5, o5'⟩ := L4.store ⟨f, k, xs.length⟩ ⟨wf_of (by dsimp only; omega) (by dsimp only; omega), wf_of (by dsimp only; omega) (by dsimp only; omega), wf_of (by dsimp only; omega) (by dsimp only; omega)⟩ (by omega)
      have hst : (Instr.mapUpdate 66 (.map (some s.lm)) (.agg #[.int .i64 f, .int .i64 k, .int .i64 xs.length]) (.agg #[])).run Tryd.prog w4.drew = .ok () w5 := hst
      have LV5 := Lib.hid l5
      have OB5 : Hid (Only (· = s.lm) w4 w5) := Only.then_ (F := (· = s.lm)) (Only.of_below (below_drewN w4 w4.heap.size 1)) o5' (fun _ _ h => h)
      have x7' := X7.out.only OB5.out (by show ¬ p7 = s.lm; omega)
      have x6' := X6.out.only OB5.out (by show ¬ p6 = s.lm; omega)
      obtain ⟨y1, y2, y3, _, _⟩ := x7'
      obtain ⟨z1, z2, z3, zf, _⟩ := x6'
      have zf0 := zf 0
      have zf1 := zf 1
      have zf2 := zf 2
      have hne : ¬ p7 = p6 := by omega
      clear hs m4 b4 ob4 l5 o5' L4 o0 o1 o2 o3 o4 o5 hlw hp6 hp7 hwz zf
      go_wp2_with fail
      go_still_tail 6, (by kernel_rfl)
      change wpList _ _ _ _ _ w4.drew
      go_wp2_with fail
      have hb6 := (X6.out.only OB5.out (by
        have := HL.out.ord
        have := HS.out.lt
        have := HP.out.1
        show ¬ p6 = s.lm
        omega)).put f k xs.length
      have ho6 : Only (· = p6) w5 (((w5.setCell ⟨p6, 0, none⟩ (.int .i64 f)).setCell ⟨p6, 1, none⟩ (.int .i64 k)).setCell ⟨p6, 2, none⟩ (.int .i64 xs.length)) := put3_only (Only.refl _ _) (.inl rfl)
      generalize ((w5.setCell ⟨p6, 0, none⟩ (.int .i64 f)).setCell ⟨p6, 1, none⟩ (.int .i64 k)).setCell ⟨p6, 2, none⟩ (.int .i64 xs.length) = w6 at hb6 ho6 ⊢
      (try simp only [Exit.inBlock, Exit.then])
      have hs := HL.out
      obtain ⟨o0, o1, o2, o3, o4, o5⟩ := hs.ord
      have hlw := HS.out.lt
      have hp6 := HP.out.1
      have hO : Only s.F w w6 := (O4.out.then_ OB5.out (fun i _ h => ⟨by omega, by omega⟩)).then_ ho6 (fun i hi h => by omega)
      have hq := HQ.out
      have hlr : len (f, xs) = k := hq
      have hsp : ∀ j, w6.cell? ⟨s.sp, j, none⟩ = w.cell? ⟨s.sp, j, none⟩ := fun j => by
        have e1 := OB5.out.cell (p := ⟨s.sp, j, none⟩) (by show s.sp < _; have := O4.out.size; omega) (by show ¬ s.sp = s.lm; omega)
        have e2 := ho6.cell (p := ⟨s.sp, j, none⟩) (by show s.sp < _; have := O4.out.size; have := OB5.out.size; omega) (by show ¬ s.sp = p6; omega)
        rw [e2, e1]
        exact HSP.out j
      refine bodyPost_ret (res_box rfl rfl hb6) rfl ⟨by rw [HQ.out], ⟨(hsp 0).trans HS.out.c0, (hsp 1).trans HS.out.c1, (hsp 2).trans HS.out.c2, ?_, ?_, ?_, ?_, HS.out.ord, Nat.lt_of_lt_of_le hlw hO.size, ?_, hsm⟩, hO⟩
      · refine ⟨r, c + k, wrt D f xs k, (D4.out.only OB5.out (by show ¬ s.dm = s.lm; omega) (by show ¬ s.lo = s.lm; omega)).only ho6 (by show ¬ s.dm = p6; omega) (by show ¬ s.lo = p6; omega), by omega, by omega, ?_⟩
        have := wrt_holds (r := (f, xs)) HH.out (off_free (r := (f, xs)) (by rw [hlr]; exact HFR.out))
        rw [hlr] at this
        exact this
      · have hm := (M4.out.only OB5.out (by show ¬ s.bm = s.lm; omega) (by show ¬ s.bx = s.lm; omega)).only ho6 (by show ¬ s.bm = p6; omega) (by show ¬ s.bx = p6; omega)
        have e := tk_add (R := R) (r := (f, xs)) (by rw [hlr]; exact HF.out)
        rw [hlr] at e
        rw [← e]
        exact hm
      · refine (LV5.out.only ho6 (by show ¬ s.lm = p6; omega)).congr fun y => ?_
        rw [← isX_add R (f, xs) y]
        have e : ext (f, xs) = ⟨f, k, xs.length⟩ := by simp [ext, hlr]
        rw [e]
      · exact HS.out.good.add (by rw [hlr]; exact hr) hy (by rw [hlr]; exact HFR.out)
      · exact HS.out.tab.only hO (by omega) (fun h => by have := h.1; omega)
end Go.Proofs.YtkjpemgoiobeeaaDoor
