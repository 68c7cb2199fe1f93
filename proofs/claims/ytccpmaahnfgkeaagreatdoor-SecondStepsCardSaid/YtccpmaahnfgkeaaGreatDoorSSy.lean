/- What the function Store of package second does with an object that may be. No condition but those that each statement names. -/
import Derived.Test.YtccpmaahnfgkeaaGreatDoorSSt
namespace Go.Proofs.YtccpmaahnfgkeaaGreatDoor
set_option maxRecDepth 1000000
open Go.ChangeShapes Go.WideShapes Go.ChangeAt Go.RowKit
open Wd (Ob okO encO refsO ObjAt In64 I64)

def StoreEnd (c : Sc) (n u m : Nat) (L : List Ent) (i : Nat) (o : Ob) (a : Nat) (ok : Bool) (w : World) (e : Ending) (w' : World) : Prop := StorePost c n u m (if ok = true then setE L i o a else L) (if ok = true then 0 else 3) w e w'
/-- What stands behind the call of Set: its extent in a box, the space's rows. -/
def AfterSet (c : Sc) (n u : Nat) (R' : List Row) (x1 x2 x3 : Int) (w2 : World) (p : Nat) (w4 : World) : Prop := Box3 w4 p x1 x2 x3 ∧ SpaceAt w4 c.s n u R' ∧ Only c.s.F w2 w4 ∧ w2.heap.size ≤ p
theorem after_first {c : Sc} {n u : Nat} {R' : List Row} {x1 x2 x3 : Int} {w2 w3 : World} {p : Nat} (hp : w2.heap.size = p) (hnp : ¬ c.s.F p) (h0 : 0 < p) (X : Box3 w3 p 0 0 0) (s3 : SpaceAt w3 c.s n u R') (o3 : Only c.s.F (w2.alloc (.cells #[.int .i64 0, .int .i64 0, .int .i64 0] 47)).drew w3) :
    AfterSet c n u R' x1 x2 x3 w2 p (((w3.setCell ⟨p, 0, none⟩ (.int .i64 x1)).setCell ⟨p, 1, none⟩ (.int .i64 x2)).setCell ⟨p, 2, none⟩ (.int .i64 x3)) := by
  have ho : Only (· = p) w3 (((w3.setCell ⟨p, 0, none⟩ (.int .i64 x1)).setCell ⟨p, 1, none⟩ (.int .i64 x2)).setCell ⟨p, 2, none⟩ (.int .i64 x3)) := put3_only (Only.refl _ _) (.inl rfl)
  have b : Below w2.heap.size w2 (w2.alloc (.cells #[.int .i64 0, .int .i64 0, .int .i64 0] 47)).drew := ((Below.refl _ _).alloc (Nat.le_refl _) _).trans (below_drewN _ _ 1)
  exact ⟨X.put x1 x2 x3, s3.only ho (fun k hk e => hnp (e ▸ hk)) (by omega), ((Only.of_below b).then_ o3 (fun _ _ h => h)).then_ ho (fun k hk e => by omega), by omega⟩
theorem after_then {c : Sc} {n u : Nat} {R' : List Row} {x1 x2 x3 : Int} {w2 w3 : World} (s3 : SpaceAt w3 c.s n u R') (o3 : Only c.s.F w2.drew w3) :
    AfterSet c n u R' x1 x2 x3 w2 w3.heap.size (w3.alloc (.cells #[.int .i64 x1, .int .i64 x2, .int .i64 x3] 47)) :=
  ⟨box3_new w3 x1 x2 x3 47, s3.fresh ((Below.refl _ _).alloc (Nat.le_refl _) _), ((Only.of_below (below_drewN w2 _ 1)).then_ o3 (fun _ _ h => h)).alloc _, o3.size⟩

set_option maxHeartbeats 4000000 in
theorem sstore_any (c : Sc) (n u m : Nat) (L : List Ent) (v : Value) (o : Ob) (x : Ent) (a : Nat) (ok : Bool) (w : World) (h : SecAt w c n u m L) (ho : ObjAt w v o) (hx : x ∈ L) (hok : okO o = true) (hu : u ≤ 100000000000000) (hR : Room n (rowsE L) (erow x) (szO o) a ok) :
    Calls Tryz.prog 12 #[.pointer (some ⟨c.q, 0, none⟩), .int .i64 x.id, v] w (StoreEnd c n (u + 1) m L x.id o a ok w) := by
  have HS := Lib.hid h
  have HO := Lib.hid ho
  have HB : Hid (Wd.ByL o.b) := by
    obtain ⟨_, _, _, _, hb, _⟩ := ho
    exact hb.2.1
  have HOK := Lib.hid hok
  have hle := (Wd.enc_le hok).2
  have hrg := h.good.rng x hx
  have hfew := h.few
  have hi : W64 x.id := W64.of (by omega) (by omega)
  have HI := Lib.hid hi
  have hfe := findE_of h.good hx
  have HGE := Lib.hid h.good
  have HXL := Lib.hid hx
  have HAX : Hid (atX (plOf L) x.id = ext (erow x)) := atX_of h.good hx
  have HRW : Hid (erow x ∈ rowsE L) := List.mem_map.2 ⟨x, hx, rfl⟩
  obtain ⟨wv, bv, rfl, _⟩ := ho
  have BW := box35 w (.int .i64 o.c) (.int .i64 o.k) wv bv
  have HC := Lib.hid (scheck_one c n u m L x.id 0 _ (h.fresh BW) hi (fun _ => rfl) (fun e => by unfold hasE at e; rw [hfe] at e; cases e))
  rw [World.size_alloc] at HC
  have HBW := Lib.hid BW
  have HX := Lib.hid (Wd.box_new w (.int .i64 o.c) (.int .i64 o.k) wv bv)
  have HR := Lib.hid hR
  obtain ⟨p, hp⟩ : ∃ p, w.heap.size = p := ⟨_, rfl⟩
  rw [hp] at HC HX
  obtain ⟨i, hid⟩ : ∃ i : Int, (x.id : Int) = i := ⟨_, rfl⟩
  have HID := Lib.hid hid
  rw [hid] at HC HI HAX ⊢
  clear h hok BW hR hrg hfew hi hfe hx hid
  go_enter Tryz.func12, Tryz.ntmps12
  go_wp2_with fail
  refine HC.out.mono ?_
  rintro e w1 ⟨rfl, s1, b1⟩
  have S1 := Lib.hid s1
  have B1 : Hid (Below w.heap.size w w1) := HBW.out.trans (b1.mono HBW.out.size)
  obtain ⟨y0, y1, y2, y3⟩ := (HX.out.kept b1 HX.out.2.2 (Nat.le_refl _)).1
  have HE := Lib.hid (Wd.encode_yes _ o w1 (HO.out.kept B1.out) HOK.out)
  clear s1 b1 hp
  go_wp2_with fail
  refine HE.out.mono ?_
  rintro e w2 ⟨v2, rfl, hown, b2⟩
  have B2 : Hid (Below w.heap.size w w2) := B1.out.trans (b2.mono B1.out.size)
  have s2 := S1.out.fresh b2
  have s2d : SecAt w2.drew c n u m L := s2.fresh (below_drewN w2 w2.heap.size 1)
  have d1 := s2.c1
  have d2 := s2.c2
  have hlk := s2d.pl.look1 i HI.out
  rw [HAX.out] at hlk
  replace hlk : (Instr.lookup 67 (.map (some c.pm)) (.int .i64 i) false).run Tryz.prog w2.drew = .ok (.agg #[.int .i64 (erow x).1, .int .i64 (len (erow x)), .int .i64 (erow x).2.length]) w2.drew := hlk
  have hbt : Bts (w1.heap.size ≤ ·) w2 v2 (encO o) := Vals.of_own (by rw [List.length_map]; exact hown)
  obtain ⟨x1, x2, x3, t, R', hres, HG⟩ : ∃ (x1 x2 x3 t : Int) (R' : List Row), Hid ((ok = true → x1 = a ∧ x2 = secs (encO o).length ∧ x3 = (encO o).length ∧ t = 0 ∧ R' = without (rowsE L) (ext (erow x)) ++ [(a, encO o)]) ∧ (ok = false → t = 3 ∧ R' = rowsE L)) ∧
      Hid (∀ w', Below w2.heap.size w2 w' → Calls Tryz.prog 36 #[.pointer (some ⟨c.s.sp, 0, none⟩), .agg #[.int .i64 (erow x).1, .int .i64 (len (erow x)), .int .i64 (erow x).2.length], v2] w'
        fun e w'' => e = .returned (.tuple #[.agg #[.int .i64 x1, .int .i64 x2, .int .i64 x3], .int .i64 t]) ∧ SpaceAt w'' c.s n (u + 1) R' ∧ Only c.s.F w' w'') := by
    have key : ∀ w', Below w2.heap.size w2 w' → _ := fun w' hb => set_any (N := (w1.heap.size ≤ ·)) c.s n u (rowsE L) (erow x) a ok v2 (encO o) w' (s2.sp.fresh hb) HRW.out (hbt.only (Only.of_below (F := fun _ => False) hb) (fun _ _ h => h)) (fun b hb hf => F_lt HS.out (by have := B1.out.size; omega) (c.inner HS.out _ hf)) (enc_bytes HB.out) hu (by omega) HR.out
    cases ok with
    | true => exact ⟨a, secs (encO o).length, (encO o).length, 0, _, ⟨fun _ => ⟨rfl, rfl, rfl, rfl, rfl⟩, fun h => by cases h⟩, fun w' hb => (key w' hb).mono fun e w'' h => h⟩
    | false => exact ⟨0, 0, 0, 3, _, ⟨fun h => (by cases h), fun _ => ⟨rfl, rfl⟩⟩, fun w' hb => (key w' hb).mono fun e w'' h => ⟨h.1, h.2.1.mono (Nat.le_succ u), h.2.2⟩⟩
  have S2 := Lib.hid s2
  have BA : Hid (Below w2.heap.size w2 (w2.alloc (.cells #[.int .i64 0, .int .i64 0, .int .i64 0] 47)).drew) := ((Below.refl _ _).alloc (Nat.le_refl _) _).trans (below_drewN _ _ 1)
  have X10 : Hid (Box3 (w2.alloc (.cells #[.int .i64 0, .int .i64 0, .int .i64 0] 47)).drew w2.heap.size 0 0 0) := (box3_new w2 0 0 0 47).fresh (below_drewN _ _ 1)
  obtain ⟨p10, hp10⟩ : ∃ p, w2.heap.size = p := ⟨_, rfl⟩
  have HP10 : Hid (w2.heap.size = p10) := hp10
  rw [hp10] at X10
  have HGW := Lib.hid (HG.out _ BA.out)
  have HGD := Lib.hid (HG.out _ (below_drewN w2 _ 1))
  generalize hln : len (erow x) = ln at hlk HGW HGD
  generalize hr : erow x = r at hlk HGW HGD hln
  obtain ⟨f, ys⟩ := r
  dsimp only at hlk HGW HGD
  have HKQ : Hid (∀ w5, Only (fun k => c.s.F k ∨ k = p10) (w2.alloc (.cells #[.int .i64 0, .int .i64 0, .int .i64 0] 47)).drew w5 → w5.cell? ⟨c.q, 1, none⟩ = some (.map (some c.pm)) ∧ w5.cell? ⟨c.q, 2, none⟩ = some (.pointer (some ⟨c.s.sp, 0, none⟩))) := fun w5 o => by
    have s := S2.out.fresh BA.out
    have hlt := S2.out.lt
    have hh := HP10.out
    have nq : ¬ (c.s.F c.q ∨ c.q = p10) := fun h => h.elim (s_not s).1 (fun e => by omega)
    exact ⟨(o.cell (p := ⟨c.q, 1, none⟩) s.lt nq).trans s.c1, (o.cell (p := ⟨c.q, 2, none⟩) s.lt nq).trans s.c2⟩
  have HKD : Hid (∀ w5, Only c.s.F w2.drew w5 → w5.cell? ⟨c.q, 1, none⟩ = some (.map (some c.pm)) ∧ w5.cell? ⟨c.q, 2, none⟩ = some (.pointer (some ⟨c.s.sp, 0, none⟩))) := fun w5 o =>
    ⟨(o.cell (p := ⟨c.q, 1, none⟩) S2.out.lt (s_not S2.out).1).trans S2.out.c1, (o.cell (p := ⟨c.q, 2, none⟩) S2.out.lt (s_not S2.out).1).trans S2.out.c2⟩
  have HP0 : Hid (0 < p10) := by have := HP10.out; have := S2.out.lt; show 0 < p10; omega
  have HNP : Hid (¬ c.s.F p10) := fun hf => by
    have := c.inner HS.out _ hf
    have := B2.out.size
    have := HP10.out
    exact F_lt HS.out (by omega) (c.inner HS.out _ hf)
  obtain ⟨a2, c2, rfl, _⟩ := Wd.own_room hown
  generalize hz : (encO o).length = z at *
  have HZ := Lib.hid hz
  have hlk' : (Instr.lookup 67 (.map (some c.pm)) (.int .i64 i) false).run Tryz.prog (w2.alloc (.cells #[.int .i64 0, .int .i64 0, .int .i64 0] 47)).drew = .ok (.agg #[.int .i64 f, .int .i64 ln, .int .i64 ys.length]) (w2.alloc (.cells #[.int .i64 0, .int .i64 0, .int .i64 0] 47)).drew := by
    have := (S2.out.fresh BA.out).pl.look1 i HI.out
    rw [HAX.out] at this
    have e : xv (ext (erow x)) = .agg #[.int .i64 f, .int .i64 ln, .int .i64 ys.length] := by rw [hr]; show Value.agg #[_, .int .i64 (len (f, ys)), _] = _; rw [hln]; rfl
    rw [e] at this
    exact this
  clear s2 b2 s2d hbt hown y0 y1 y2 y3 HG
  go_wp2_with fail
  go_region_held3 (fun w' => w'.cell? ⟨c.q, 1, none⟩ = some (.map (some c.pm)) ∧ w'.cell? ⟨c.q, 2, none⟩ = some (.pointer (some ⟨c.s.sp, 0, none⟩))) (first | go_keep | (exact HK3.out) | (exact HK4.out) | (exact HK5.out _)) (first | (go_at_call 36; refine HGW.out.mono ?_; rintro e w3 ⟨rfl, s3, o3⟩; have HK3 := Lib.hid (HKQ.out _ (o3.mono (fun _ _ h => .inl h))); have HK4 := Lib.hid (HKQ.out _ (put3_only (p := p10) (a' := x1) (b' := x2) (c' := x3) (o3.mono (fun _ _ h => .inl h)) (.inl (.inr rfl)))); have X11 := Lib.hid (X10.out.only o3 HNP.out); have AF := Lib.hid (after_first (x1 := x1) (x2 := x2) (x3 := x3) HP10.out HNP.out HP0.out X11.out s3 o3); obtain ⟨n1, n2, n3, nf, _⟩ := X11.out; have nf0 := nf 0; have nf1 := nf 1; have nf2 := nf 2; clear nf) | (go_at_call 36; refine HGD.out.mono ?_; rintro e w3 ⟨rfl, s3, o3⟩; have HK3 := Lib.hid (HKD.out _ o3); have HK5 := Lib.hid (fun ob => HKD.out _ (o3.alloc ob)); have AF := Lib.hid (after_then (x1 := x1) (x2 := x2) (x3 := x3) s3 o3)))
  · generalize w3.heap.size = pB at AF ⊢
    generalize w3.alloc (.cells #[.int .i64 x1, .int .i64 x2, .int .i64 x3] 47) = w4 at AF ⊢
    have hq4 : c.q < w4.heap.size := Nat.lt_of_lt_of_le S2.out.lt AF.out.2.2.1.size
    have d0 : Hid (w4.cell? ⟨c.q, 0, none⟩ = some (.int .i64 m)) := (AF.out.2.2.1.cell (p := ⟨c.q, 0, none⟩) S2.out.lt (s_not S2.out).1).trans S2.out.c0
    have d1 := (AF.out.2.2.1.cell (p := ⟨c.q, 1, none⟩) S2.out.lt (s_not S2.out).1).trans S2.out.c1
    have d2' : Hid (w4.cell? ⟨c.q, 2, none⟩ = some (.pointer (some ⟨c.s.sp, 0, none⟩))) := (AF.out.2.2.1.cell (p := ⟨c.q, 2, none⟩) S2.out.lt (s_not S2.out).1).trans S2.out.c2
    have df : Hid (w4.frozen? ⟨c.q, 0, none⟩ = false) := (AF.out.2.2.1.frozen (p := ⟨c.q, 0, none⟩) S2.out.lt (s_not S2.out).1).trans S2.out.fz
    have O4 : Hid (Only c.F w w4) := (Only.of_below B2.out : Only c.F w w2).then_ AF.out.2.2.1 (fun k _ hk => c.inner HS.out k hk)
    cases ok with
    | false =>
      obtain ⟨rfl, hR'⟩ := hres.out.2 rfl
      have S4 : Hid (SecAt w4 c n (u + 1) m L) := S2.out.inner AF.out.2.2.1 (hR' ▸ AF.out.2.1) (Nat.le_succ u)
      clear d1 hR'
      go_wp2
      go_ret
      exact ⟨rfl, S4.out, O4.out⟩
    | true =>
      obtain ⟨rfl, rfl, rfl, rfl, hR'⟩ := hres.out.1 rfl
      have AF2 := Lib.hid (hR' ▸ AF.out.2.1)
      have PL4 : PlAt w4.drew c.pm u (plOf L) := (S2.out.pl.only AF.out.2.2.1 (s_not S2.out).2).heap rfl
      obtain ⟨w5, hst, p5, o5⟩ := PL4.store i HI.out ⟨a, secs z, z⟩ (by omega)
      have hst : (Instr.mapUpdate 67 (.map (some c.pm)) (.int .i64 i) (.agg #[.int .i64 a, .int .i64 (secs z), .int .i64 z])).run Tryz.prog w4.drew = .ok () w5 := hst
      obtain ⟨y0, y1, y2, _, _⟩ := AF.out.1
      have P5 := Lib.hid p5
      have O5 : Hid (Only (· = c.pm) w4 w5) := (Only.of_below (F := (· = c.pm)) (below_drewN w4 _ 1)).trans o5
      clear p5 o5 PL4 hR'
      go_wp2_with fail
      go_still_tail 6, (by kernel_rfl)
      change wpList _ _ _ _ _ w4.drew
      go_wp2_with fail
      go_ret
      have hpq := HS.out.ord
      have hso := HS.out.sp.ord
      have nq : ¬ c.q = c.pm := by omega
      refine ⟨rfl, ⟨(O5.out.cell (p := ⟨c.q, 0, none⟩) hq4 nq).trans d0.out, (O5.out.cell (p := ⟨c.q, 1, none⟩) hq4 nq).trans d1, (O5.out.cell (p := ⟨c.q, 2, none⟩) hq4 nq).trans d2'.out, (O5.out.frozen (p := ⟨c.q, 0, none⟩) hq4 nq).trans df.out,
        P5.out.congr (fun j _ => ?_), (AF2.out.only O5.out (fun k hk e => by have := hk.2; omega) (by omega)).perm (rows_set HS.out.sp.good HGE.out HXL.out o a), good_set HGE.out x.id o a HOK.out, HS.out.ord, Nat.lt_of_lt_of_le hq4 O5.out.size, HS.out.few⟩, O4.out.then_ O5.out (fun k _ e => ⟨by omega, by omega⟩)⟩
      have e2 : ext (a, encO o) = ⟨a, secs z, z⟩ := by simp only [ext, len]; rw [HZ.out]
      have e3 := pl_set HGE.out HXL.out o a HOK.out j
      rw [HID.out, e2] at e3
      exact e3
  all_goals
    generalize ((w3.setCell ⟨p10, 0, none⟩ (.int .i64 x1)).setCell ⟨p10, 1, none⟩ (.int .i64 x2)).setCell ⟨p10, 2, none⟩ (.int .i64 x3) = w4 at AF ⊢
    have hq4 : c.q < w4.heap.size := Nat.lt_of_lt_of_le S2.out.lt AF.out.2.2.1.size
    have d0 : Hid (w4.cell? ⟨c.q, 0, none⟩ = some (.int .i64 m)) := (AF.out.2.2.1.cell (p := ⟨c.q, 0, none⟩) S2.out.lt (s_not S2.out).1).trans S2.out.c0
    have d1 := (AF.out.2.2.1.cell (p := ⟨c.q, 1, none⟩) S2.out.lt (s_not S2.out).1).trans S2.out.c1
    have d2' : Hid (w4.cell? ⟨c.q, 2, none⟩ = some (.pointer (some ⟨c.s.sp, 0, none⟩))) := (AF.out.2.2.1.cell (p := ⟨c.q, 2, none⟩) S2.out.lt (s_not S2.out).1).trans S2.out.c2
    have df : Hid (w4.frozen? ⟨c.q, 0, none⟩ = false) := (AF.out.2.2.1.frozen (p := ⟨c.q, 0, none⟩) S2.out.lt (s_not S2.out).1).trans S2.out.fz
    have O4 : Hid (Only c.F w w4) := (Only.of_below B2.out : Only c.F w w2).then_ AF.out.2.2.1 (fun k _ hk => c.inner HS.out k hk)
    cases ok with
    | false =>
      obtain ⟨rfl, hR'⟩ := hres.out.2 rfl
      have S4 : Hid (SecAt w4 c n (u + 1) m L) := S2.out.inner AF.out.2.2.1 (hR' ▸ AF.out.2.1) (Nat.le_succ u)
      clear d1 hR'
      go_wp2
      go_ret
      exact ⟨rfl, S4.out, O4.out⟩
    | true =>
      obtain ⟨rfl, rfl, rfl, rfl, hR'⟩ := hres.out.1 rfl
      have AF2 := Lib.hid (hR' ▸ AF.out.2.1)
      have PL4 : PlAt w4.drew c.pm u (plOf L) := (S2.out.pl.only AF.out.2.2.1 (s_not S2.out).2).heap rfl
      obtain ⟨w5, hst, p5, o5⟩ := PL4.store i HI.out ⟨a, secs z, z⟩ (by omega)
      have hst : (Instr.mapUpdate 67 (.map (some c.pm)) (.int .i64 i) (.agg #[.int .i64 a, .int .i64 (secs z), .int .i64 z])).run Tryz.prog w4.drew = .ok () w5 := hst
      obtain ⟨y0, y1, y2, _, _⟩ := AF.out.1
      have P5 := Lib.hid p5
      have O5 : Hid (Only (· = c.pm) w4 w5) := (Only.of_below (F := (· = c.pm)) (below_drewN w4 _ 1)).trans o5
      clear p5 o5 PL4 hR'
      go_wp2_with fail
      go_still_tail 6, (by kernel_rfl)
      change wpList _ _ _ _ _ w4.drew
      go_wp2_with fail
      go_ret
      have hpq := HS.out.ord
      have hso := HS.out.sp.ord
      have nq : ¬ c.q = c.pm := by omega
      refine ⟨rfl, ⟨(O5.out.cell (p := ⟨c.q, 0, none⟩) hq4 nq).trans d0.out, (O5.out.cell (p := ⟨c.q, 1, none⟩) hq4 nq).trans d1, (O5.out.cell (p := ⟨c.q, 2, none⟩) hq4 nq).trans d2'.out, (O5.out.frozen (p := ⟨c.q, 0, none⟩) hq4 nq).trans df.out,
        P5.out.congr (fun j _ => ?_), (AF2.out.only O5.out (fun k hk e => by have := hk.2; omega) (by omega)).perm (rows_set HS.out.sp.good HGE.out HXL.out o a), good_set HGE.out x.id o a HOK.out, HS.out.ord, Nat.lt_of_lt_of_le hq4 O5.out.size, HS.out.few⟩, O4.out.then_ O5.out (fun k _ e => ⟨by omega, by omega⟩)⟩
      have e2 : ext (a, encO o) = ⟨a, secs z, z⟩ := by simp only [ext, len]; rw [HZ.out]
      have e3 := pl_set HGE.out HXL.out o a HOK.out j
      rw [HID.out, e2] at e3
      exact e3
end Go.Proofs.YtccpmaahnfgkeaaGreatDoor
