/- Texts of the layers below, one behind the other: EESt EERm. -/
import Derived.Test.YtccpmaahnfgkeaaGreatDoorLEa
import Derived.Laws.ResultCell

/- What the function store of package extent does. No condition but those that each statement names. -/
namespace Go.Proofs.YtccpmaahnfgkeaaGreatDoor
set_option maxRecDepth 1000000
open Go.ChangeShapes Go.WideShapes Go.ChangeAt Go.RowKit

/-- The disk's bytes behind k writes of xs from the sector f on. -/
def wrt (D : Nat → Int) (f : Nat) (xs : List Int) : Nat → Nat → Int
  | 0 => D
  | k + 1 => put (wrt D f xs k) (f + k) ((xs.drop (64 * k)).take 64)
theorem getD_cut (xs : List Int) (a q : Nat) (hq : q < 64) : ((xs.drop a).take 64).getD q 0 = xs.getD (a + q) 0 := by
  simp only [List.getD]
  rw [List.getElem?_take, if_pos hq, List.getElem?_drop]
theorem wrt_at (D : Nat → Int) (f : Nat) (xs : List Int) : ∀ (k p : Nat), wrt D f xs k p = if 64 * f ≤ p ∧ p < 64 * (f + k) then xs.getD (p - 64 * f) 0 else D p
  | 0, p => by rw [if_neg (by omega)]; rfl
  | k + 1, p => by
    simp only [wrt, put]
    by_cases h : 64 * (f + k) ≤ p ∧ p < 64 * (f + k) + 64
    · rw [if_pos h, if_pos (by omega), getD_cut _ _ _ (by omega)]
      congr 1
      omega
    · rw [if_neg h, wrt_at D f xs k p]
      by_cases h2 : 64 * f ≤ p ∧ p < 64 * (f + k)
      · rw [if_pos h2, if_pos (by omega)]
      · rw [if_neg h2, if_neg (by omega)]
theorem wrt_holds {D : Nat → Int} {R : List Row} {r : Row} (h : Holds D R) (ho : ∀ q ∈ R, Off q r) : Holds (wrt D r.1 r.2 (len r)) (R ++ [r]) := by
  intro q hq j hj
  rw [wrt_at]
  rcases List.mem_append.1 hq with hq | hq
  · have h1 := ho q hq
    have h2 := secs_le q.2.length
    unfold Off at h1
    have h3 : secs q.2.length = len q := rfl
    rw [if_neg (by omega)]
    exact h q hq j hj
  · rw [List.mem_singleton] at hq
    subst hq
    have h2 := secs_le q.2.length
    have h3 : secs q.2.length = len q := rfl
    rw [if_pos (by omega)]
    congr 1
    omega
theorem cut_bytes {xs : List Int} (h : Bytes xs) (a : Nat) : Bytes ((xs.drop a).take 64) := fun n hn => h n (List.mem_of_mem_drop (List.mem_of_mem_take hn))

theorem bts_sub {N : Nat → Prop} {w : World} {b off l c : Nat} {xs : List Int} (h : Bts N w (.slice (some ⟨b, off, none⟩) l c) xs) (o m c' : Nat) (hm : o + m ≤ l) (hc : m ≤ c') :
    Bts N w (.slice (some ⟨b, off + o, none⟩) m c') ((xs.drop o).take m) := by
  obtain ⟨a, c0, he, _, h⟩ := h
  injection he with e1 e2 e3
  subst e1
  rw [List.length_map] at e2
  have hl : ((xs.drop o).take m).length = m := by rw [List.length_take, List.length_drop]; omega
  refine ⟨_, c', by rw [List.length_map, hl], by rw [List.length_map, hl]; exact hc, ?_⟩
  rcases h with h | ⟨b', off', ha, hb, h⟩
  · left
    rw [List.map_eq_nil_iff] at h
    subst h
    simp
  · injection ha with ha
    injection ha with e4 e5
    subst e4 e5
    refine .inr ⟨b, off + o, rfl, hb, fun j u hu => ?_⟩
    rw [Nat.add_assoc]
    refine h (o + j) u ?_
    rw [List.getElem?_map, List.getElem?_take] at hu
    rw [List.getElem?_map]
    split at hu
    · rw [List.getElem?_drop] at hu; exact hu
    · cases hu

/-- Three numbers in a block. -/
def Box3 (w : World) (p : Nat) (a b c : Int) : Prop :=
  w.cell? ⟨p, 0, none⟩ = some (.int .i64 a) ∧ w.cell? ⟨p, 1, none⟩ = some (.int .i64 b) ∧ w.cell? ⟨p, 2, none⟩ = some (.int .i64 c) ∧ (∀ j, w.frozen? ⟨p, j, none⟩ = false) ∧ p < w.heap.size
theorem Box3.only {w w' : World} {p : Nat} {a b c : Int} {F : Nat → Prop} (h : Box3 w p a b c) (o : Only F w w') (hF : ¬ F p) : Box3 w' p a b c :=
  ⟨(o.cell (p := ⟨p, 0, none⟩) h.2.2.2.2 hF).trans h.1, (o.cell (p := ⟨p, 1, none⟩) h.2.2.2.2 hF).trans h.2.1, (o.cell (p := ⟨p, 2, none⟩) h.2.2.2.2 hF).trans h.2.2.1, fun j => (o.frozen (p := ⟨p, j, none⟩) h.2.2.2.2 hF).trans (h.2.2.2.1 j), Nat.lt_of_lt_of_le h.2.2.2.2 o.size⟩
theorem Box3.fresh {w w' : World} {p : Nat} {a b c : Int} (h : Box3 w p a b c) (o : Below w.heap.size w w') : Box3 w' p a b c := h.only (F := fun _ => False) (Only.of_below o) id
theorem box3_new (w : World) (a b c : Int) (t : TypeId) : Box3 (w.alloc (.cells #[.int .i64 a, .int .i64 b, .int .i64 c] t)) w.heap.size a b c := by
  refine ⟨?_, ?_, ?_, fun j => frozen_top w _ _ j, by simp⟩
  · rw [World.cell?_alloc_at _ _ _ _ rfl]; rfl
  · rw [World.cell?_alloc_at _ _ _ _ rfl]; rfl
  · rw [World.cell?_alloc_at _ _ _ _ rfl]; rfl

theorem wf_of {n : Int} (h1 : -9223372036854775808 ≤ n) (h2 : n ≤ 9223372036854775807) : (Lit.int .i64 n).wf = true := by
  have e1 : IntKind.i64.min = -9223372036854775808 := rfl
  have e2 : IntKind.i64.max = 9223372036854775807 := rfl
  simp only [Lit.wf, Bool.and_eq_true, decide_eq_true_eq]
  omega

theorem Box3.put {w : World} {p : Nat} {a b c : Int} (h : Box3 w p a b c) (a' b' c' : Int) :
    Box3 (((w.setCell ⟨p, 0, none⟩ (.int .i64 a')).setCell ⟨p, 1, none⟩ (.int .i64 b')).setCell ⟨p, 2, none⟩ (.int .i64 c')) p a' b' c' := by
  obtain ⟨h1, h2, h3, h4, h5⟩ := h
  refine ⟨?_, ?_, ?_, fun j => ?_, by simpa [World.setCell] using h5⟩
  · rw [World.cell?_setCell_other _ _ _ _ (by simp), World.cell?_setCell_other _ _ _ _ (by simp), World.cell?_setCell_same _ _ _ h1]
  · rw [World.cell?_setCell_other _ _ _ _ (by simp), World.cell?_setCell_same _ _ _ ((World.cell?_setCell_other _ _ _ _ (by simp)).trans h2)]
  · rw [World.cell?_setCell_same _ _ _ ((World.cell?_setCell_other _ _ _ _ (by simp)).trans ((World.cell?_setCell_other _ _ _ _ (by simp)).trans h3))]
  · rw [World.frozen?_setCell, World.frozen?_setCell, World.frozen?_setCell]; exact h4 j
theorem put3_only {w : World} {p : Nat} {a' b' c' : Int} {F : Nat → Prop} {w0 : World} (h : Only F w0 w) (hp : F p ∨ w0.heap.size ≤ p) :
    Only F w0 (((w.setCell ⟨p, 0, none⟩ (.int .i64 a')).setCell ⟨p, 1, none⟩ (.int .i64 b')).setCell ⟨p, 2, none⟩ (.int .i64 c')) :=
  ((h.setCell ⟨p, 0, none⟩ hp _).setCell ⟨p, 1, none⟩ hp _).setCell ⟨p, 2, none⟩ hp _
theorem load_box {w : World} {b : Nat} {x y z : Int} (hb : Box3 w b x y z) : (loadVar 47 ⟨b, 0, none⟩).run Tryz.prog w = .ok (.agg #[.int .i64 x, .int .i64 y, .int .i64 z]) w := by
  obtain ⟨h1, h2, h3, _, _⟩ := hb
  go_simp
theorem res_box {fn : Func} {p : Tmp} (h : fn.results = #[.cell p 47]) {tmps : Array Value} {w : World} {b : Nat} {x y z : Int} (hp : tmps.getD p undef = .pointer (some ⟨b, 0, none⟩)) (hb : Box3 w b x y z) :
    (results fn tmps).run Tryz.prog w = .ok (.agg #[.int .i64 x, .int .i64 y, .int .i64 z]) w := by
  simp only [results, h]
  rw [Array.getD_eq_getD_getElem?] at hp
  simp [hp, asAddr, load_box hb]
theorem res_box2 {fn : Func} {p u : Tmp} (h : fn.results = #[.cell p 47, .tmp u]) {tmps : Array Value} {w : World} {b : Nat} {x y z : Int} (hp : tmps.getD p undef = .pointer (some ⟨b, 0, none⟩)) (hb : Box3 w b x y z) :
    (results fn tmps).run Tryz.prog w = .ok (.tuple #[.agg #[.int .i64 x, .int .i64 y, .int .i64 z], tmps.getD u undef]) w := by
  rw [results_cell_tmp h, hp]
  simp [Result.andThen, asAddr, load_box hb]

def StInv (dm lo n r c : Nat) (D : Nat → Int) (w wr : World) : Prop := DiskAt wr dm lo n r c D ∧ Only (dk dm lo) w wr
def StPost (s : Sp) (n u : Nat) (R : List Row) (f : Nat) (xs : List Int) (w : World) (e : Ending) (w' : World) : Prop :=
  e = .returned (.agg #[.int .i64 f, .int .i64 (secs xs.length), .int .i64 xs.length]) ∧ SpaceAt w' s n (u + 1) (R ++ [(f, xs)]) ∧ Only s.F w w'

/-- The loop's bytes: what is left of the slice behind k rounds. -/
def Left (N : Nat → Prop) (w : World) (xs : List Int) (q k : Nat) (v : Value) : Prop := k < q → Bts N w v (xs.drop (64 * k))

set_option maxHeartbeats 2000000 in
theorem store_any {N : Nat → Prop} (s : Sp) (n u : Nat) (R : List Row) (f : Nat) (v : Value) (xs : List Int) (w : World) (h : SpaceAt w s n u R) (hv : Bts N w v xs) (hN : ∀ b, N b → ¬ s.F b) (hy : Bytes xs)
    (hr : f + secs xs.length ≤ n) (hfree : ∀ k, k < secs xs.length → tk R (f + k) = false) (hu : u ≤ 100000000000000) :
    Calls Tryz.prog 54 #[.pointer (some ⟨s.sp, 0, none⟩), .int .i64 f, v] w (StPost s n u R f xs w) := by
  have HS := Lib.hid h
  have HV := Lib.hid hv
  have HN := Lib.hid hN
  obtain ⟨r, c, D, hd, hr0, hc0, hh⟩ := h.disk
  have HD := Lib.hid hd
  have HH := Lib.hid hh
  have hsm := h.small
  obtain ⟨a, cp, rfl, hcp, hcell⟩ := hv
  have ha : 0 < xs.length → ∃ b off, a = some ⟨b, off, none⟩ := fun h0 => by
    rcases hcell with e | ⟨b, off, e, _⟩
    · simp at e; subst e; simp at h0
    · exact ⟨b, off, e⟩
  have HA := Lib.hid ha
  rw [List.length_map] at hcp HV ⊢
  have hl := secs_le xs.length
  have hl2 := secs_lt xs.length
  have hl1 := secs_pos xs.length
  have HX := Lib.hid (sectors_any xs.length)
  generalize hq : secs xs.length = q at *
  have HQ := Lib.hid hq
  have HF : Hid (cnt (tk R) f q = 0) := cnt_none hfree
  have HFR := Lib.hid hfree
  clear h hd hh hcell hN hfree hq ha
  go_enter Tryz.func54, Tryz.ntmps54
  go_wp2_with fail
  refine (HX.out _ (by omega)).mono ?_
  rintro e w1 ⟨rfl, rfl⟩
  go_wp2_with fail
  have X6 : Hid (Box3 ((w.alloc (.cells #[.int .i64 0, .int .i64 0, .int .i64 0] 47)).alloc (.cells #[.int .i64 f, .int .i64 q, .int .i64 xs.length] 47)) w.heap.size 0 0 0) :=
    (box3_new w 0 0 0 47).fresh ((Below.refl _ _).alloc (Nat.le_refl _) _)
  have X7 : Hid (Box3 ((w.alloc (.cells #[.int .i64 0, .int .i64 0, .int .i64 0] 47)).alloc (.cells #[.int .i64 f, .int .i64 q, .int .i64 xs.length] 47)) (w.heap.size + 1) f q xs.length) := by
    have := box3_new (w.alloc (.cells #[.int .i64 0, .int .i64 0, .int .i64 0] 47)) f q xs.length 47
    rwa [World.size_alloc] at this
  have BW : Hid (Below w.heap.size w ((w.alloc (.cells #[.int .i64 0, .int .i64 0, .int .i64 0] 47)).alloc (.cells #[.int .i64 f, .int .i64 q, .int .i64 xs.length] 47))) := ((Below.refl _ _).alloc (Nat.le_refl _) _).alloc (by simp) _
  generalize (w.alloc (.cells #[.int .i64 0, .int .i64 0, .int .i64 0] 47)).alloc (.cells #[.int .i64 f, .int .i64 q, .int .i64 xs.length] 47) = w0 at X6 X7 BW ⊢
  refine (places_any f q _ _ (by omega) (by omega)).mono ?_
  rintro e w1 ⟨g, rfl, hg, hgl, hI, hb⟩
  have hgw : w.heap.size ≤ g := Nat.le_trans BW.out.size hg
  have X6 : Hid (Box3 w1 w.heap.size 0 0 0) := X6.out.fresh hb
  have X7 : Hid (Box3 w1 (w.heap.size + 1) f q xs.length) := X7.out.fresh hb
  have BW : Hid (Below w.heap.size w w1) := BW.out.trans (hb.mono BW.out.size)
  have HI := Lib.hid hI
  have HG := Lib.hid hgw
  clear hI hb hg hgw
  obtain ⟨p6, hp6⟩ : ∃ p, w.heap.size = p := ⟨_, rfl⟩
  obtain ⟨p7, hp7⟩ : ∃ p, w.heap.size + 1 = p := ⟨_, rfl⟩
  have HP := Lib.hid (And.intro hp6 hp7)
  have HL : Hid (SpaceAt w1 s n u R) := HS.out.fresh BW.out
  rw [hp7] at X7 ⊢
  rw [hp6] at BW X6 HG ⊢
  clear hp6 hp7
  go_wp2_with fail
  have HD1 : Hid (DiskAt w1 s.dm s.lo n r c D) := HD.out.fresh (by rw [HP.out.1]; exact BW.out)
  go_loopw [2, 21] (fun v i wr => ∃ k : Nat, k ≤ q ∧ i = .int .i64 k ∧ Left N w1 xs q k v ∧ StInv s.dm s.lo n r (c + k) (wrt D f xs k) w1 wr) (fun _ i _ => q - (intOf i).toNat)
  case atStart =>
    exact ⟨0, Nat.zero_le _, rfl, fun _ => Bts.only HV.out (Only.of_below (F := fun _ => False) (by rw [HP.out.1]; exact BW.out)) (fun _ _ h => h), HD1.out, Only.refl _ _⟩
  case round =>
    obtain ⟨k, hk, rfl, hlf, hd, ho⟩ := hrel
    by_cases hlt : k < q
    · have hs := HL.out
      obtain ⟨o0, o1, o2, o3, o4, o5⟩ := hs.ord
      have c0 := (ho.cell (p := ⟨s.sp, 0, none⟩) hs.lt (by show ¬ (s.sp = s.dm ∨ s.sp = s.lo); omega)).trans hs.c0
      have hlw := HS.out.lt
      have hp6 := HP.out.1
      have hgk : wr.cell? ⟨g, k, none⟩ = some (.int .i64 ((f + k : Nat) : Int)) := by
        have hg := HG.out
        have := (Vals.only HI.out ho (fun b hb => by subst hb; show ¬ (b = s.dm ∨ b = s.lo); omega))
        obtain ⟨b', off', c', e1, _, _, _, h3⟩ := Vals.at_ (k := k) this (by rw [List.length_map, run_len]; exact hlt)
        injection e1 with e1
        injection e1 with e1
        injection e1 with e1 e2
        subst e1 e2
        rw [List.getElem_map] at h3
        rw [Nat.zero_add] at h3
        rw [h3]
        congr 2
        have := run_get f q k hlt
        rw [List.getElem?_eq_getElem (by rw [run_len]; exact hlt)] at this
        exact Option.some.inj this
      obtain ⟨i, hi⟩ : ∃ i, f + k = i := ⟨_, rfl⟩
      have HIi := Lib.hid hi
      rw [hi] at hgk
      have hin : i < n := by omega
      have HKP : Hid (∀ v ys, Bts N w1 v ys → Bts N wr v ys) := fun v ys hb => Bts.only hb ho (fun b hb e => HN.out b hb (by
        rcases e with e | e
        · exact ⟨by omega, by omega⟩
        · exact ⟨by omega, by omega⟩))
      have HW := Lib.hid (fun v bs (hb : Bts N wr.drew v bs) hy hl => write_yes s.dm s.lo n r (c + k) (wrt D f xs k) i v bs wr.drew (hd.heap rfl) hin (by omega) hb hy hl)
      have HO := Lib.hid ho
      have HLF := Lib.hid hlf
      clear hs hd ho hlf o0 o1 o2 o3 o4 o5 hlw hp6 hi
      have hb1 := HLF.out hlt
      obtain ⟨a', C, rfl, hLC⟩ := hb1.form
      have hb1' := hb1
      obtain ⟨_, _, he, _, hcells⟩ := hb1'
      have hA' : 64 < (xs.drop (64 * k)).length → ∃ b off, a' = some ⟨b, off, none⟩ := fun hl => by
        injection he with e1 e2 e3
        subst e1
        rcases hcells with hz | ⟨b, off, e, _⟩
        · rw [List.map_eq_nil_iff] at hz
          rw [hz] at hl
          simp at hl
        · exact ⟨b, off, e⟩
      have HB1 := Lib.hid hb1
      have hL := List.length_drop (i := 64 * k) (l := xs)
      clear hb1 he hcells
      obtain ⟨L, hLe⟩ : ∃ L, (xs.drop (64 * k)).length = L := ⟨_, rfl⟩
      rw [hLe] at HB1 hL hA' hLC ⊢
      by_cases hlast : L ≤ 64
      · have hmin : min (L : Int) 64 = L := by omega
        have HB : Hid (Bts N wr.drew (.slice a' L C) ((xs.drop (64 * k)).take 64)) := by
          show Bts _ _ _ _
          rw [List.take_of_length_le (by omega)]
          exact Bts.heap (HKP.out _ _ HB1.out) rfl
        have hlq : k + 1 = q := by have := HQ.out; unfold secs at this; omega
        clear hLe hL hA'
        go_wp2_with fail
        go_still_tail 8, (by kernel_rfl)
        change wpList _ _ _ _ _ wr.drew
        go_wp2_with fail
        refine (HW.out _ _ HB.out (cut_bytes hy _) (by rw [List.length_take]; omega)).mono ?_
        rintro e w3 ⟨rfl, d3, o3⟩
        have D3 := Lib.hid d3
        have O3 : Hid (Only (dk s.dm s.lo) w1 w3) := HO.out.then_ (Only.then_ (F := dk s.dm s.lo) (Only.of_below (below_drewN wr wr.heap.size 1)) o3 (fun _ _ h => h)) (fun _ _ h => h)
        clear d3 o3
        go_wp2_with fail
        go_roundw
        case rel => exact ⟨k + 1, by omega, by go_num, fun h => by omega, by show DiskAt _ _ _ _ _ _ (put _ (f + k) _); rw [HIi.out]; exact D3.out, O3.out⟩
        case measure => simp [intOf]; omega
      · obtain ⟨b, o, rfl⟩ := hA' (by omega)
        have hmin : min (L : Int) 64 = 64 := by omega
        have HB : Hid (Bts N wr.drew (.slice (some ⟨b, o, none⟩) 64 C) ((xs.drop (64 * k)).take 64)) := bts_sub (Bts.heap (HKP.out _ _ HB1.out) rfl) 0 64 C (by omega) (by omega)
        have HB2 : Hid (Bts N w1 (.slice (some ⟨b, o + 64, none⟩) (L - 64) (C - 64)) (xs.drop (64 * (k + 1)))) := by
          have := bts_sub HB1.out 64 (L - 64) (C - 64) (by omega) (by omega)
          rwa [List.drop_drop, List.take_of_length_le (by rw [List.length_drop]; omega), show 64 * k + 64 = 64 * (k + 1) by omega] at this
        have h64 : (64 : Int) ≤ L := by omega
        have h67 : (64 : Int) ≤ C := by omega
        have h65 : ¬ C = 64 := by omega
        have h66 : ¬ 64 = C := by omega
        clear hLe hL hA'
        go_wp2_with fail
        go_still_tail 8, (by kernel_rfl)
        change wpList _ _ _ _ _ wr.drew
        go_wp2_with fail
        refine (HW.out _ _ HB.out (cut_bytes hy _) (by rw [List.length_take]; omega)).mono ?_
        rintro e w3 ⟨rfl, d3, o3⟩
        have D3 := Lib.hid d3
        have O3 : Hid (Only (dk s.dm s.lo) w1 w3) := HO.out.then_ (Only.then_ (F := dk s.dm s.lo) (Only.of_below (below_drewN wr wr.heap.size 1)) o3 (fun _ _ h => h)) (fun _ _ h => h)
        clear d3 o3
        go_wp2_with fail
        go_roundw
        case rel => exact ⟨k + 1, by omega, by go_num, fun h => HB2.out, by show DiskAt _ _ _ _ _ _ (put _ (f + k) _); rw [HIi.out]; exact D3.out, O3.out⟩
        case measure => simp [intOf]; omega
    · obtain rfl : k = q := by omega
      have HDk := Lib.hid hd
      have hs := HL.out
      obtain ⟨o0, o1, o2, o3, o4, o5⟩ := hs.ord
      have hlw := HS.out.lt
      have hp6 := HP.out.1
      have hp7 := HP.out.2
      have c1 := (ho.cell (p := ⟨s.sp, 1, none⟩) hs.lt (by show ¬ (s.sp = s.dm ∨ s.sp = s.lo); omega)).trans hs.c1
      have c2 := (ho.cell (p := ⟨s.sp, 2, none⟩) hs.lt (by show ¬ (s.sp = s.dm ∨ s.sp = s.lo); omega)).trans hs.c2
      have x7 := X7.out.only ho (by show ¬ (p7 = s.dm ∨ p7 = s.lo); omega)
      have X7 := Lib.hid x7
      have X6 : Hid (Box3 wr p6 0 0 0) := X6.out.only ho (by show ¬ (p6 = s.dm ∨ p6 = s.lo); omega)
      obtain ⟨x1, x2, x3, _, _⟩ := x7
      have hM := hs.map.only ho (by show ¬ (s.bm = s.dm ∨ s.bm = s.lo); omega) (by show ¬ (s.bx = s.dm ∨ s.bx = s.lo); omega)
      have HT := Lib.hid (take_yes s.bm s.bx n (tk R) f k wr.drew (hM.heap rfl) hl1 hr HF.out)
      have HO : Hid (Only s.F w wr) := (Only.of_below (by rw [hp6]; exact BW.out) : Only s.F w w1).then_ ho (fun i _ h => by
        rcases h with h | h
        · exact ⟨by omega, by omega⟩
        · exact ⟨by omega, by omega⟩)
      have HLV : Hid (LiveAt wr s.lm u (isX R)) := hs.live.only ho (by show ¬ (s.lm = s.dm ∨ s.lm = s.lo); omega)
      have C2 := Lib.hid c2
      have HSPR : Hid (∀ j, wr.cell? ⟨s.sp, j, none⟩ = w.cell? ⟨s.sp, j, none⟩) := fun j => by
        rw [ho.cell (p := ⟨s.sp, j, none⟩) hs.lt (by show ¬ (s.sp = s.dm ∨ s.sp = s.lo); omega)]
        exact BW.out.cell (p := ⟨s.sp, j, none⟩) (by show s.sp < _; omega)
      clear hd ho hlf hs hM c2 o0 o1 o2 o3 o4 o5 hlw hp6 hp7
      go_wp2_with fail
      go_still_tail 8, (by kernel_rfl)
      change wpList _ _ _ _ _ wr.drew
      go_wp2_with fail
      refine HT.out.mono ?_
      rintro e w4 ⟨rfl, m4, b4⟩
      have hs := HL.out
      obtain ⟨o0, o1, o2, o3, o4, o5⟩ := hs.ord
      have hlw := HS.out.lt
      have hp6 := HP.out.1
      have hp7 := HP.out.2
      have hwz := HO.out.size
      have ob4 : Only (· = s.bx) wr w4 := Only.then_ (F := (· = s.bx)) (Only.of_below (below_drewN wr wr.heap.size 1)) (Only.of_but b4) (fun _ _ h => h)
      have c2 := (ob4.cell (p := ⟨s.sp, 2, none⟩) (by show s.sp < _; omega) (by show ¬ s.sp = s.bx; omega)).trans C2.out
      have x7 := X7.out.only ob4 (by show ¬ p7 = s.bx; omega)
      have X6 : Hid (Box3 w4 p6 0 0 0) := X6.out.only ob4 (by show ¬ p6 = s.bx; omega)
      have X7 := Lib.hid x7
      obtain ⟨x1, x2, x3, _, _⟩ := x7
      have M4 := Lib.hid m4
      have D4 : Hid (DiskAt w4 s.dm s.lo n r (c + k) (wrt D f xs k)) := HDk.out.only ob4 (by show ¬ s.dm = s.bx; omega) (by show ¬ s.lo = s.bx; omega)
      have O4 : Hid (Only s.F w w4) := HO.out.then_ ob4 (fun i _ h => ⟨by omega, by omega⟩)
      have HSP : Hid (∀ j, w4.cell? ⟨s.sp, j, none⟩ = w.cell? ⟨s.sp, j, none⟩) := fun j => by
        rw [ob4.cell (p := ⟨s.sp, j, none⟩) (by show s.sp < _; omega) (by show ¬ s.sp = s.bx; omega)]
        exact HSPR.out j
      have L4 : LiveAt w4.drew s.lm u (isX R) := (HLV.out.only ob4 (by show ¬ s.lm = s.bx; omega)).heap rfl
      have hxl : xs.length ≤ 1280000 := by omega
      obtain ⟨w5, hst, l5, o5'⟩ := L4.store ⟨f, k, xs.length⟩ ⟨wf_of (by dsimp only; omega) (by dsimp only; omega), wf_of (by dsimp only; omega) (by dsimp only; omega), wf_of (by dsimp only; omega) (by dsimp only; omega)⟩ (by omega)
      have hst : (Instr.mapUpdate 106 (.map (some s.lm)) (.agg #[.int .i64 f, .int .i64 k, .int .i64 xs.length]) (.agg #[])).run Tryz.prog w4.drew = .ok () w5 := hst
      have LV5 := Lib.hid l5
      have OB5 : Hid (Only (· = s.lm) w4 w5) := Only.then_ (F := (· = s.lm)) (Only.of_below (below_drewN w4 w4.heap.size 1)) o5' (fun _ _ h => h)
      have x7' := X7.out.only OB5.out (by show ¬ p7 = s.lm; omega)
      have x6' := X6.out.only OB5.out (by show ¬ p6 = s.lm; omega)
      obtain ⟨y1, y2, y3, _, _⟩ := x7'
      obtain ⟨z1, z2, z3, zf, _⟩ := x6'
      have zf0 := zf 0
      have zf1 := zf 1
      have zf2 := zf 2
      have hne : ¬ p7 = p6 := by omega
      clear hs m4 b4 ob4 l5 o5' L4 o0 o1 o2 o3 o4 o5 hlw hp6 hp7 hwz zf
      go_wp2_with fail
      go_still_tail 6, (by kernel_rfl)
      change wpList _ _ _ _ _ w4.drew
      go_wp2_with fail
      have hb6 := (X6.out.only OB5.out (by
        have := HL.out.ord
        have := HS.out.lt
        have := HP.out.1
        show ¬ p6 = s.lm
        omega)).put f k xs.length
      have ho6 : Only (· = p6) w5 (((w5.setCell ⟨p6, 0, none⟩ (.int .i64 f)).setCell ⟨p6, 1, none⟩ (.int .i64 k)).setCell ⟨p6, 2, none⟩ (.int .i64 xs.length)) := put3_only (Only.refl _ _) (.inl rfl)
      generalize ((w5.setCell ⟨p6, 0, none⟩ (.int .i64 f)).setCell ⟨p6, 1, none⟩ (.int .i64 k)).setCell ⟨p6, 2, none⟩ (.int .i64 xs.length) = w6 at hb6 ho6 ⊢
      (try simp only [Exit.inBlock, Exit.then])
      have hs := HL.out
      obtain ⟨o0, o1, o2, o3, o4, o5⟩ := hs.ord
      have hlw := HS.out.lt
      have hp6 := HP.out.1
      have hO : Only s.F w w6 := (O4.out.then_ OB5.out (fun i _ h => ⟨by omega, by omega⟩)).then_ ho6 (fun i hi h => by omega)
      have hq := HQ.out
      have hlr : len (f, xs) = k := hq
      have hsp : ∀ j, w6.cell? ⟨s.sp, j, none⟩ = w.cell? ⟨s.sp, j, none⟩ := fun j => by
        have e1 := OB5.out.cell (p := ⟨s.sp, j, none⟩) (by show s.sp < _; have := O4.out.size; omega) (by show ¬ s.sp = s.lm; omega)
        have e2 := ho6.cell (p := ⟨s.sp, j, none⟩) (by show s.sp < _; have := O4.out.size; have := OB5.out.size; omega) (by show ¬ s.sp = p6; omega)
        rw [e2, e1]
        exact HSP.out j
      refine bodyPost_ret (res_box rfl rfl hb6) rfl ⟨by rw [HQ.out], ⟨(hsp 0).trans HS.out.c0, (hsp 1).trans HS.out.c1, (hsp 2).trans HS.out.c2, ?_, ?_, ?_, ?_, HS.out.ord, Nat.lt_of_lt_of_le hlw hO.size, ?_, hsm⟩, hO⟩
      · refine ⟨r, c + k, wrt D f xs k, (D4.out.only OB5.out (by show ¬ s.dm = s.lm; omega) (by show ¬ s.lo = s.lm; omega)).only ho6 (by show ¬ s.dm = p6; omega) (by show ¬ s.lo = p6; omega), by omega, by omega, ?_⟩
        have := wrt_holds (r := (f, xs)) HH.out (off_free (r := (f, xs)) (by rw [hlr]; exact HFR.out))
        rw [hlr] at this
        exact this
      · have hm := (M4.out.only OB5.out (by show ¬ s.bm = s.lm; omega) (by show ¬ s.bx = s.lm; omega)).only ho6 (by show ¬ s.bm = p6; omega) (by show ¬ s.bx = p6; omega)
        have e := tk_add (R := R) (r := (f, xs)) (by rw [hlr]; exact HF.out)
        rw [hlr] at e
        rw [← e]
        exact hm
      · refine (LV5.out.only ho6 (by show ¬ s.lm = p6; omega)).congr fun y => ?_
        rw [← isX_add R (f, xs) y]
        have e : ext (f, xs) = ⟨f, k, xs.length⟩ := by simp [ext, hlr]
        rw [e]
      · exact HS.out.good.add (by rw [hlr]; exact hr) hy (by rw [hlr]; exact HFR.out)
      · exact HS.out.tab.only hO (by omega) (fun h => by have := h.1; omega)
end Go.Proofs.YtccpmaahnfgkeaaGreatDoor

/- What the functions remove and another of package extent do. No condition but those that each statement names. -/
namespace Go.Proofs.YtccpmaahnfgkeaaGreatDoor
set_option maxRecDepth 1000000
open Go.ChangeShapes Go.WideShapes Go.ChangeAt Go.RowKit

theorem clr_run (D : Nat → Int) (f : Nat) : ∀ (q p : Nat), clr D (run f q) p = if 64 * f ≤ p ∧ p < 64 * (f + q) then 0 else D p
  | 0, p => by rw [if_neg (by omega)]; rfl
  | q + 1, p => by
    have e : run f (q + 1) = run f q ++ [((f + q : Nat) : Int)] := by simp [run, List.range_succ]
    rw [e]
    unfold clr
    rw [List.foldl_append]
    show put (clr D (run f q)) ((f + q : Nat) : Int).toNat [] p = _
    rw [Int.toNat_natCast]
    simp only [put]
    by_cases h : 64 * (f + q) ≤ p ∧ p < 64 * (f + q) + 64
    · rw [if_pos h, if_pos (by omega)]; rfl
    · rw [if_neg h, clr_run D f q p]
      by_cases h2 : 64 * f ≤ p ∧ p < 64 * (f + q)
      · rw [if_pos h2, if_pos (by omega)]
      · rw [if_neg h2, if_neg (by omega)]
theorem clr_holds {n : Nat} {D : Nat → Int} {R : List Row} (h : Holds D R) (g : Good n R) {r : Row} (hr : r ∈ R) : Holds (clr D (run r.1 (len r))) (without R (ext r)) := by
  intro q hq j hj
  obtain ⟨hq, hne⟩ := mem_without.1 hq
  have h1 := g.off hq hr (fun e => hne (by rw [e]))
  have h2 := secs_le q.2.length
  have h3 : secs q.2.length = len q := rfl
  unfold Off at h1
  rw [clr_run, if_neg (by omega)]
  exact h q hq j hj
theorem span_in (f q n : Nat) (h : f + q ≤ n) : inB n (run f q) = true := by
  simp only [inB, List.all_eq_true, run, List.mem_map, List.mem_range, decide_eq_true_eq]
  rintro x ⟨k, hk, rfl⟩
  omega

def RmPost (s : Sp) (n u : Nat) (R : List Row) (w : World) (e : Ending) (w' : World) : Prop :=
  e = .returned (.tuple #[]) ∧ SpaceAt w' s n u R ∧ Only s.F w w'

set_option maxHeartbeats 2000000 in
theorem remove_any (s : Sp) (n u : Nat) (R : List Row) (r : Row) (w : World) (h : SpaceAt w s n u R) (hr : r ∈ R) :
    Calls Tryz.prog 68 #[.pointer (some ⟨s.sp, 0, none⟩), .agg #[.int .i64 r.1, .int .i64 (len r), .int .i64 r.2.length]] w (RmPost s n u (without R (ext r)) w) := by
  obtain ⟨f, xs⟩ := r
  obtain ⟨q, hq⟩ : ∃ q, len (f, xs) = q := ⟨_, rfl⟩
  have hroom := h.good.room _ hr
  have hq1 := len_pos (f, xs)
  have hsm := h.small
  have HQ := Lib.hid hq
  have HS := Lib.hid h
  have HR := Lib.hid hr
  have hlen := secs_le xs.length
  change xs.length ≤ 64 * len (f, xs) at hlen
  rw [hq] at hroom hq1 hlen ⊢
  show Calls Tryz.prog 68 #[_, .agg #[.int .i64 f, .int .i64 q, .int .i64 xs.length]] w _
  change f + q ≤ n at hroom
  obtain ⟨o0, o1, o2, o3, o4, o5⟩ := h.ord
  have hlw := h.lt
  have X3 : Box3 (w.alloc (.cells #[.int .i64 f, .int .i64 q, .int .i64 xs.length] 47)) w.heap.size f q xs.length := box3_new w f q xs.length 47
  have BW : Below w.heap.size w (w.alloc (.cells #[.int .i64 f, .int .i64 q, .int .i64 xs.length] 47)) := (Below.refl _ _).alloc (Nat.le_refl _) _
  have S0 := h.fresh BW
  obtain ⟨p3, hp3⟩ : ∃ p, w.heap.size = p := ⟨_, rfl⟩
  have HP := Lib.hid hp3
  rw [hp3] at X3 BW
  go_enter Tryz.func68, Tryz.ntmps68
  go_wp2_with fail
  clear hp3
  generalize w.alloc (.cells #[.int .i64 f, .int .i64 q, .int .i64 xs.length] 47) = w0 at X3 BW S0 ⊢
  have x1 := X3.1
  have x2 := X3.2.1
  have x3 := X3.2.2.1
  have c0 := S0.c0
  obtain ⟨rd, cw, D, hd, hrd, hcw, hh⟩ := S0.disk
  have HX3 := Lib.hid X3
  have HBW := Lib.hid BW
  have HS0 := Lib.hid S0
  have HH := Lib.hid hh
  have HC : Hid (∀ (w5 : World) (g : Nat), Below w0.heap.size w0.drew w5 → Ints (· = g) w5 (.slice (some ⟨g, 0, none⟩) q q) (run f q) → w0.heap.size ≤ g →
      Calls Tryz.prog 94 #[.pointer (some ⟨s.dm, 0, none⟩), .slice (some ⟨g, 0, none⟩) q q] w5 (ClearPost s.dm s.lo n rd cw (clr D (run f q)) w5)) := fun w5 g hb hI hg =>
    clear_yes s.dm s.lo n rd cw D _ (run f q) w5 ((hd.heap (w' := w0.drew) rfl).fresh hb) hI (fun b e e' => by
      subst e
      have := BW.size
      rcases e' with e' | e' <;> omega) (by rw [run_len]; omega) (span_in f q n hroom)
  have HK : Hid (∀ (w5 w6 : World), Only (dk s.dm s.lo) w5 w6 →
      (w5.cell? ⟨s.sp, 0, none⟩ = some (.pointer (some ⟨s.dm, 0, none⟩)) ∧ w5.cell? ⟨p3, 0, none⟩ = some (.int .i64 f) ∧ w5.cell? ⟨p3, 1, none⟩ = some (.int .i64 q) ∧ w5.cell? ⟨p3, 2, none⟩ = some (.int .i64 xs.length)) →
      (w6.cell? ⟨s.sp, 0, none⟩ = some (.pointer (some ⟨s.dm, 0, none⟩)) ∧ w6.cell? ⟨p3, 0, none⟩ = some (.int .i64 f) ∧ w6.cell? ⟨p3, 1, none⟩ = some (.int .i64 q) ∧ w6.cell? ⟨p3, 2, none⟩ = some (.int .i64 xs.length))) := fun w5 w6 o ⟨h1, h2, h3, h4⟩ => by
    have hp := HP.out
    have e1 : ∀ (j : Nat) (v : Value), w5.cell? ⟨s.sp, j, none⟩ = some v → w6.cell? ⟨s.sp, j, none⟩ = some v := fun j v hv => (o.cell (p := ⟨s.sp, j, none⟩) (World.block_lt_of_cell? _ _ hv) (by show ¬ (s.sp = s.dm ∨ s.sp = s.lo); omega)).trans hv
    have e2 : ∀ (j : Nat) (v : Value), w5.cell? ⟨p3, j, none⟩ = some v → w6.cell? ⟨p3, j, none⟩ = some v := fun j v hv => (o.cell (p := ⟨p3, j, none⟩) (World.block_lt_of_cell? _ _ hv) (by show ¬ (p3 = s.dm ∨ p3 = s.lo); omega)).trans hv
    exact ⟨e1 _ _ h1, e2 _ _ h2, e2 _ _ h3, e2 _ _ h4⟩
  clear X3 BW S0 hd hh h hr o0 o1 o2 o3 o4 o5
  go_region_held3 (fun w' => w'.cell? ⟨s.sp, 0, none⟩ = some (.pointer (some ⟨s.dm, 0, none⟩)) ∧ w'.cell? ⟨p3, 0, none⟩ = some (.int .i64 f) ∧ w'.cell? ⟨p3, 1, none⟩ = some (.int .i64 q) ∧ w'.cell? ⟨p3, 2, none⟩ = some (.int .i64 xs.length)) (first | go_keep | (refine ⟨?_, ?_, ?_, ?_⟩ <;> exact (hb5.cell (World.block_lt_of_cell? _ _ (by assumption))).trans (by assumption)) | (exact HK.out _ _ o6 (by assumption))) (first | (go_at_call 62; refine (places_any f q _ _ (by omega) (by omega)).mono ?_; rintro e w5 ⟨g, rfl, hg5, hgl5, hI5, hb5⟩) | (go_at_call 94; refine (HC.out w5 g hb5 hI5 hg5).mono ?_; rintro e w6 ⟨rfl, d6, o6⟩))
  have D6 := Lib.hid d6
  have hp := HP.out
  have hs := HS0.out
  obtain ⟨o0, o1, o2, o3, o4, o5⟩ := hs.ord
  have hb5' : Below w0.heap.size w0 w5 := ⟨hb5.os, hb5.tape, hb5.output, hb5.size, hb5.block⟩
  have O6 : Only (dk s.dm s.lo) w0 w6 := (Only.of_below hb5').then_ o6 (fun _ _ h => h)
  have hw0 := HBW.out.size
  have x7 := HX3.out.only O6 (by show ¬ (p3 = s.dm ∨ p3 = s.lo); omega)
  have X3 := Lib.hid x7
  obtain ⟨y1, y2, y3, _, _⟩ := x7
  have c1 := (O6.cell (p := ⟨s.sp, 1, none⟩) hs.lt (by show ¬ (s.sp = s.dm ∨ s.sp = s.lo); omega)).trans hs.c1
  have hM := hs.map.only O6 (by show ¬ (s.bm = s.dm ∨ s.bm = s.lo); omega) (by show ¬ (s.bx = s.dm ∨ s.bx = s.lo); omega)
  have HT := Lib.hid (free_yes s.bm s.bx n (tk R) f q w6.drew (hM.heap rfl) hq1 hroom (by have := cnt_row HR.out; rw [HQ.out] at this; exact this))
  have HO6 := Lib.hid O6
  clear d6 o6 hs hM O6 hb5 hb5' hI5 hg5 hgl5 o0 o1 o2 o3 o4 o5 hw0 hp x1 x2 x3 c0
  go_wp2_with fail
  go_still_tail 8, (by kernel_rfl)
  change wpList _ _ _ _ _ w6.drew
  go_wp2_with fail
  refine HT.out.mono ?_
  rintro e w7 ⟨rfl, m7, b7⟩
  have hs := HS0.out
  obtain ⟨o0, o1, o2, o3, o4, o5⟩ := hs.ord
  have hp := HP.out
  have hw0 := HBW.out.size
  have hw6 := HO6.out.size
  have ob7 : Only (· = s.bx) w6 w7 := Only.then_ (F := (· = s.bx)) (Only.of_below (below_drewN w6 w6.heap.size 1)) (Only.of_but b7) (fun _ _ h => h)
  have x7 := X3.out.only ob7 (by show ¬ p3 = s.bx; omega)
  obtain ⟨z1, z2, z3, _, _⟩ := x7
  have c2 := ((ob7.cell (p := ⟨s.sp, 2, none⟩) (by show s.sp < _; omega) (by show ¬ s.sp = s.bx; omega)).trans (HO6.out.cell (p := ⟨s.sp, 2, none⟩) hs.lt (by show ¬ (s.sp = s.dm ∨ s.sp = s.lo); omega))).trans hs.c2
  have L7 : LiveAt w7.drew s.lm u (isX R) := ((hs.live.only HO6.out (by show ¬ (s.lm = s.dm ∨ s.lm = s.lo); omega)).only ob7 (by show ¬ s.lm = s.bx; omega)).heap rfl
  obtain ⟨w8, hst, l8, o8⟩ := L7.drop ⟨f, q, xs.length⟩ ⟨wf_of (by dsimp only; omega) (by dsimp only; omega), wf_of (by dsimp only; omega) (by dsimp only; omega), wf_of (by dsimp only; omega) (by dsimp only; omega)⟩ 0
  have hst : (Builtin.delete_ #[106, 47] 0 #[.map (some s.lm), .agg #[.int .i64 f, .int .i64 q, .int .i64 xs.length]]).run Tryz.prog w7.drew = .ok (.tuple #[]) w8 := hst
  have M7 := Lib.hid m7
  have OB7 := Lib.hid ob7
  have L8 := Lib.hid l8
  have OB8 : Hid (Only (· = s.lm) w7 w8) := Only.then_ (F := (· = s.lm)) (Only.of_below (below_drewN w7 w7.heap.size 1)) o8 (fun _ _ h => h)
  clear m7 b7 ob7 hs l8 o8 L7 o0 o1 o2 o3 o4 o5 hw0 hw6 hp c1 y1 y2 y3
  go_wp2_with fail
  go_still_tail 5, (by kernel_rfl)
  change wpList _ _ _ _ _ w7.drew
  go_wp2_with fail
  go_end0
  have hs := HS0.out
  obtain ⟨o0, o1, o2, o3, o4, o5⟩ := hs.ord
  have hp := HP.out
  have hq := HQ.out
  have hb0 : Below w.heap.size w w0 := by rw [hp]; exact HBW.out
  have hO : Only s.F w w8 := (((Only.of_below hb0 : Only s.F w w0).then_ HO6.out (fun i _ h => by
    rcases h with h | h
    · exact ⟨by omega, by omega⟩
    · exact ⟨by omega, by omega⟩)).then_ OB7.out (fun i _ h => ⟨by omega, by omega⟩)).then_ OB8.out (fun i _ h => ⟨by omega, by omega⟩)
  have hsp : ∀ j, w8.cell? ⟨s.sp, j, none⟩ = w0.cell? ⟨s.sp, j, none⟩ := fun j => by
    have e1 := HO6.out.cell (p := ⟨s.sp, j, none⟩) hs.lt (by show ¬ (s.sp = s.dm ∨ s.sp = s.lo); omega)
    have e2 := OB7.out.cell (p := ⟨s.sp, j, none⟩) (Nat.lt_of_lt_of_le hs.lt HO6.out.size) (by show ¬ s.sp = s.bx; omega)
    have e3 := OB8.out.cell (p := ⟨s.sp, j, none⟩) (Nat.lt_of_lt_of_le (Nat.lt_of_lt_of_le hs.lt HO6.out.size) OB7.out.size) (by show ¬ s.sp = s.lm; omega)
    rw [e3, e2, e1]
  refine ⟨rfl, ⟨(hsp 0).trans hs.c0, (hsp 1).trans hs.c1, (hsp 2).trans hs.c2, ?_, ?_, ?_, hs.good.without _, hs.ord, Nat.lt_of_lt_of_le hlw hO.size, ?_, hsm⟩, hO⟩
  · refine ⟨rd, cw, _, (D6.out.only OB7.out (by show ¬ s.dm = s.bx; omega) (by show ¬ s.lo = s.bx; omega)).only OB8.out (by show ¬ s.dm = s.lm; omega) (by show ¬ s.lo = s.lm; omega), hrd, hcw, ?_⟩
    have := clr_holds HH.out hs.good HR.out
    rw [hq] at this
    exact this
  · have e := tk_rem hs.good HR.out
    rw [hq] at e
    rw [← e]
    exact M7.out.only OB8.out (by show ¬ s.bm = s.lm; omega) (by show ¬ s.bx = s.lm; omega)
  · refine L8.out.congr fun y => ?_
    rw [← isX_rem R (ext (f, xs)) y]
    have e : ext (f, xs) = ⟨f, q, xs.length⟩ := by simp [ext, hq]
    rw [e]
  · exact HS.out.tab.only hO (by omega) (fun h => by have := h.1; omega)

theorem flip_flip (S : Nat → Bool) (f c : Nat) : flipS (flipS S f c) f c = S := by
  funext i
  simp [flipS]

def AnPost (s : Sp) (n u : Nat) (R : List Row) (S : Nat → Bool) (q : Nat) (w : World) (e : Ending) (w' : World) : Prop :=
  ∃ a ok, e = .returned (.tuple #[.int .i64 (a : Nat), .bool ok]) ∧ FirstIs S n q a ok ∧ SpaceAt w' s n u R ∧ Only s.F w w'

theorem another_same (s : Sp) (f q : Nat) (z : Int) (w : World) :
    Calls Tryz.prog 67 #[.pointer (some ⟨s.sp, 0, none⟩), .agg #[.int .i64 f, .int .i64 q, .int .i64 z], .int .i64 q] w fun e w' => e = .returned (.tuple #[.int .i64 f, .bool true]) ∧ Below w.heap.size w w' := by
  go_enter Tryz.func67, Tryz.ntmps67
  go_wp2
  go_ret2
  exact ⟨rfl, (Below.refl _ _).alloc (Nat.le_refl _) _⟩

set_option maxHeartbeats 2000000 in
theorem another_other (s : Sp) (n u : Nat) (R : List Row) (r : Row) (p : Nat) (w : World) (h : SpaceAt w s n u R) (hr : r ∈ R) (hp : p ≠ len r) (hp1 : 1 ≤ p) (hp2 : p ≤ 9223372036854775807) :
    Calls Tryz.prog 67 #[.pointer (some ⟨s.sp, 0, none⟩), .agg #[.int .i64 r.1, .int .i64 (len r), .int .i64 r.2.length], .int .i64 p] w (AnPost s n u R (tk (without R (ext r))) p w) := by
  obtain ⟨f, xs⟩ := r
  obtain ⟨q, hq⟩ : ∃ q, len (f, xs) = q := ⟨_, rfl⟩
  have hroom := h.good.room _ hr
  have hq1 := len_pos (f, xs)
  have hsm := h.small
  have HQ := Lib.hid hq
  have HS := Lib.hid h
  have HR := Lib.hid hr
  rw [hq] at hroom hq1 hp ⊢
  show Calls Tryz.prog 67 #[_, .agg #[.int .i64 f, .int .i64 q, .int .i64 xs.length], _] w _
  change f + q ≤ n at hroom
  have hlw := h.lt
  have X3 : Box3 (w.alloc (.cells #[.int .i64 f, .int .i64 q, .int .i64 xs.length] 47)) w.heap.size f q xs.length := box3_new w f q xs.length 47
  have BW : Below w.heap.size w (w.alloc (.cells #[.int .i64 f, .int .i64 q, .int .i64 xs.length] 47)) := (Below.refl _ _).alloc (Nat.le_refl _) _
  have S0 := h.fresh BW
  obtain ⟨p4, hp4⟩ : ∃ p, w.heap.size = p := ⟨_, rfl⟩
  have HP := Lib.hid hp4
  have hpq : ((p : Int) == q) = false := by simp; omega
  have HNE := Lib.hid hp
  rw [hp4] at X3 BW
  clear hp
  go_enter Tryz.func67, Tryz.ntmps67
  go_wp2_with fail
  clear hp4
  generalize w.alloc (.cells #[.int .i64 f, .int .i64 q, .int .i64 xs.length] 47) = w0 at X3 BW S0 ⊢
  have x1 := X3.1
  have x2 := X3.2.1
  have c1 := S0.c1
  have HX3 := Lib.hid X3
  have HBW := Lib.hid BW
  have HS0 := Lib.hid S0
  have HT := Lib.hid (free_yes s.bm s.bx n (tk R) f q w0.drew (S0.map.heap rfl) hq1 hroom (by have := cnt_row hr; rw [hq] at this; exact this))
  clear X3 BW S0 h hr hq
  go_still_tail 8, (by kernel_rfl)
  change wpList _ _ _ _ _ w0.drew
  go_wp2_with fail
  refine HT.out.mono ?_
  rintro e w1 ⟨rfl, m1, b1⟩
  have hs := HS0.out
  obtain ⟨o0, o1, o2, o3, o4, o5⟩ := hs.ord
  have hpp := HP.out
  have hw0 := HBW.out.size
  have ob1 : Only (· = s.bx) w0 w1 := Only.then_ (F := (· = s.bx)) (Only.of_below (below_drewN w0 w0.heap.size 1)) (Only.of_but b1) (fun _ _ h => h)
  have x3 := HX3.out.only ob1 (by show ¬ p4 = s.bx; omega)
  have X3 := Lib.hid x3
  have c1' := (ob1.cell (p := ⟨s.sp, 1, none⟩) hs.lt (by show ¬ s.sp = s.bx; omega)).trans hs.c1
  have t1 := hs.tab.only ob1 (by have := hs.lt; omega) (by show ¬ 0 = s.bx; omega)
  have HF := Lib.hid (first_any s.bm s.bx n _ p w1 m1 t1 hp1 hp2)
  have OB1 := Lib.hid ob1
  have M1 := Lib.hid m1
  obtain ⟨y1, y2, y3, _, _⟩ := x3
  clear hs m1 b1 ob1 t1 o0 o1 o2 o3 o4 o5 hpp hw0 x1 x2 c1
  go_wp2_with fail
  refine HF.out.mono ?_
  rintro e w2 ⟨a, ok, d, rfl, hf, rfl⟩
  have HFI := Lib.hid hf
  clear hf
  have y1' : (w1.drewN d).cell? ⟨p4, 0, none⟩ = some (.int .i64 f) := y1
  have y2' : (w1.drewN d).cell? ⟨p4, 1, none⟩ = some (.int .i64 q) := y2
  have c1'' : (w1.drewN d).cell? ⟨s.sp, 1, none⟩ = some (.pointer (some ⟨s.bm, 0, none⟩)) := c1'
  have HT2 := Lib.hid (take_yes s.bm s.bx n (flipS (tk R) f q) f q (w1.drewN d).drew ((M1.out.drewN d).heap rfl) hq1 hroom (cnt_none fun k hk => by
    have h1 : tk R (f + k) = true := tk_iff.2 ⟨(f, xs), HR.out, by show f ≤ f + k; omega, by rw [HQ.out]; show f + k < f + q; omega⟩
    simp only [flipS, h1]
    have : inR f q (f + k) = true := inR_iff.2 (by omega)
    rw [this]; rfl))
  have M2 : Hid (Below w1.heap.size w1 (w1.drewN d)) := below_drewN _ _ _
  generalize w1.drewN d = w2 at y1' y2' c1'' HT2 M2 ⊢
  clear y1 y2 c1'
  go_wp2_with fail
  go_still_tail 8, (by kernel_rfl)
  change wpList _ _ _ _ _ w2.drew
  go_wp2_with fail
  refine HT2.out.mono ?_
  rintro e w3 ⟨rfl, m3, b3⟩
  have M3 := Lib.hid m3
  have ob3 : Hid (Only (· = s.bx) w2 w3) := Only.then_ (F := (· = s.bx)) (Only.of_below (below_drewN w2 w2.heap.size 1)) (Only.of_but b3) (fun _ _ h => h)
  clear m3 b3
  go_wp2_with fail
  go_ret2
  have hs := HS0.out
  obtain ⟨o0, o1, o2, o3, o4, o5⟩ := hs.ord
  have hpp := HP.out
  have hq := HQ.out
  have hb0 : Below w.heap.size w w0 := by rw [hpp]; exact HBW.out
  have hO0 : Only (· = s.bx) w0 w3 := ((OB1.out.then_ (Only.of_below M2.out : Only (· = s.bx) w1 w2) (fun _ _ h => h)).then_ ob3.out (fun _ _ h => h))
  have hO : Only s.F w w3 := (Only.of_below hb0 : Only s.F w w0).then_ hO0 (fun i _ h => ⟨by omega, by omega⟩)
  have hsp : ∀ j, w3.cell? ⟨s.sp, j, none⟩ = w0.cell? ⟨s.sp, j, none⟩ := fun j => hO0.cell (p := ⟨s.sp, j, none⟩) hs.lt (by show ¬ s.sp = s.bx; omega)
  obtain ⟨rd, cw, D, hd, hrd, hcw, hh⟩ := hs.disk
  have e := tk_rem hs.good HR.out
  rw [hq] at e
  refine ⟨a, ok, rfl, by rw [← e]; exact HFI.out, ⟨(hsp 0).trans hs.c0, (hsp 1).trans hs.c1, (hsp 2).trans hs.c2, ⟨rd, cw, D, hd.only hO0 (by show ¬ s.dm = s.bx; omega) (by show ¬ s.lo = s.bx; omega), hrd, hcw, hh⟩, ?_, hs.live.only hO0 (by show ¬ s.lm = s.bx; omega), hs.good, hs.ord, Nat.lt_of_lt_of_le hlw hO.size, HS.out.tab.only hO (by omega) (fun h => by have := h.1; omega), hsm⟩, hO⟩
  have hm := M3.out
  rw [flip_flip] at hm
  exact hm
end Go.Proofs.YtccpmaahnfgkeaaGreatDoor
