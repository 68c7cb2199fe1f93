/- What the method Get of package extent does. No condition but those that each statement names. -/
import Derived.Test.YtkjpemgoiobeeaaDoorEPut
namespace Go.Proofs.YtkjpemgoiobeeaaDoor
set_option maxRecDepth 1000000
open Go.ChangeShapes Go.WideShapes Go.ChangeAt Go.RowKit

/-- The slice that a call on one extent makes. -/
theorem one_ext {N : Nat → Prop} (w : World) (x : Ext) (h : N w.heap.size) : Exts N (w.alloc (.cells #[.int .i64 x.f, .int .i64 x.n, .int .i64 x.s] 32)) (.slice (some ⟨w.heap.size, 0, none⟩) 1 1) [x] := by
  have hb := box3_new w x.f x.n x.s 32
  refine ⟨_, 1, rfl, by simp, .inr ⟨_, 0, rfl, h, fun j y hy => ?_⟩⟩
  match j, hy with
  | 0, hy =>
    simp at hy
    subst hy
    exact ⟨hb.1, hb.2.1, hb.2.2.1⟩
  | j + 1, hy => simp at hy
theorem ok_one {R : List Row} {x : Ext} (h : isX R x = true) : okX R [x] := ⟨fun y hy => by rw [List.mem_singleton.1 hy]; exact h, by simp⟩
theorem bad_one {R : List Row} {x : Ext} (h : isX R x = false) : ¬ okX R [x] := fun h1 => by
  rw [h1.1 x (by simp)] at h; cases h

def GetNone (s : Sp) (n u : Nat) (R : List Row) (w : World) (e : Ending) (w' : World) : Prop :=
  e = .returned (.tuple #[.slice none 0 0, .int .i64 4]) ∧ SpaceAt w' s n u R ∧ Below w.heap.size w w'

/-- check, called on one extent that lies in a box. -/
theorem check_one_ext (s : Sp) (n u : Nat) (R : List Row) (x : Ext) (t : Int) (w : World) (h : SpaceAt w s n u R) (hx : x.wf) (ht : isX R x = true → t = 0) (ht' : isX R x = false → t = 4) :
    Calls Tryd.prog 31 #[.pointer (some ⟨s.sp, 0, none⟩), .slice (some ⟨w.heap.size, 0, none⟩) 1 1] (w.alloc (.cells #[.int .i64 x.f, .int .i64 x.n, .int .i64 x.s] 32)) (CkPost s n u R t w) :=
  (check_exts (N := fun _ => True) s n u R _ [x] t _ (h.fresh ((Below.refl _ _).alloc (Nat.le_refl _) _)) (one_ext w x trivial) (fun y hy => by rw [List.mem_singleton.1 hy]; exact hx) (by simp) (fun h1 => ht (h1.1 x (by simp))) (fun h1 => ht' (by
    cases e : isX R x
    · rfl
    · exact absurd (ok_one e) h1))).mono fun e w' ⟨he, hs, hb⟩ => ⟨he, hs, ((Below.refl _ _).alloc (Nat.le_refl _) _).trans (hb.mono (by simp))⟩

set_option maxHeartbeats 1000000 in
theorem get_none (s : Sp) (n u : Nat) (R : List Row) (f q z : Int) (w : World) (h : SpaceAt w s n u R) (hx : Ext.wf ⟨f, q, z⟩) (hX : isX R ⟨f, q, z⟩ = false) :
    Calls Tryd.prog 13 #[.pointer (some ⟨s.sp, 0, none⟩), .agg #[.int .i64 f, .int .i64 q, .int .i64 z]] w (GetNone s n u R w) := by
  have BW : Below w.heap.size w (w.alloc (.cells #[.int .i64 f, .int .i64 q, .int .i64 z] 32)) := (Below.refl _ _).alloc (Nat.le_refl _) _
  have HC := Lib.hid (check_one_ext s n u R ⟨f, q, z⟩ 4 _ (h.fresh BW) hx (fun e => by rw [hX] at e; cases e) (fun _ => rfl))
  have HB := Lib.hid BW
  clear h hX hx BW
  rw [World.size_alloc] at HC
  go_enter Tryd.func13, Tryd.ntmps13
  go_wp2_with (go_at_call 31; refine HC.out.mono ?_; rintro e w1 ⟨rfl, s1, b1⟩)
  go_ret2
  exact ⟨rfl, s1, HB.out.trans (b1.mono HB.out.size)⟩

def bytesOf (D : Nat → Int) (f k : Nat) : List Int := (List.range (64 * k)).map fun j => D (64 * f + j)
theorem bytesOf_len (D : Nat → Int) (f k : Nat) : (bytesOf D f k).length = 64 * k := by simp [bytesOf]
theorem bytesOf_succ (D : Nat → Int) (f k : Nat) : bytesOf D f (k + 1) = bytesOf D f k ++ sec D (f + k) := by
  apply List.ext_getElem?
  intro j
  by_cases h : j < 64 * k
  · rw [List.getElem?_append_left (by rw [bytesOf_len]; exact h)]
    simp [bytesOf, h, show j < 64 * (k + 1) by omega]
  · rw [List.getElem?_append_right (by rw [bytesOf_len]; omega), bytesOf_len]
    by_cases h2 : j < 64 * (k + 1)
    · rw [sec_get _ _ _ (by omega)]
      simp only [bytesOf]
      rw [List.getElem?_map, List.getElem?_range h2]
      simp only [Option.map_some]
      congr 2
      omega
    · rw [List.getElem?_eq_none (by rw [bytesOf_len]; omega), List.getElem?_eq_none (by rw [sec_len]; omega)]
theorem bytesOf_row {D : Nat → Int} {R : List Row} {r : Row} (h : Holds D R) (hr : r ∈ R) : (bytesOf D r.1 (len r)).take r.2.length = r.2 := by
  have hl := secs_le r.2.length
  have h3 : secs r.2.length = len r := rfl
  apply List.ext_getElem?
  intro j
  rw [List.getElem?_take]
  split
  · rename_i hj
    simp only [bytesOf]
    rw [List.getElem?_map, List.getElem?_range (by omega)]
    simp only [Option.map_some]
    rw [h r hr j hj, List.getElem?_eq_getElem hj, List.getD, List.getElem?_eq_getElem hj]
    rfl
  · rename_i hj
    rw [List.getElem?_eq_none (by omega)]

/-- A space whose disk alone has changed. -/
theorem SpaceAt.disked {w w' : World} {s : Sp} {n u u' : Nat} {R : List Row} {gb r c : Nat} {D : Nat → Int} (h : SpaceAt w s n u R) (o : Only (fun b => b = s.dm ∨ b = gb) w w') (hg : s.sp < gb) (hd : DiskAt w' s.dm s.lo n r c D) (hr : r ≤ 20000 * u') (hc : c ≤ 20000 * u') (hu : u ≤ u') (hh : Holds D R) : SpaceAt w' s n u' R := by
  obtain ⟨o0, o1, o2, o3, o4, o5⟩ := h.ord
  have hsp : ∀ j, w'.cell? ⟨s.sp, j, none⟩ = w.cell? ⟨s.sp, j, none⟩ := fun j => o.cell (p := ⟨s.sp, j, none⟩) h.lt (by show ¬ (s.sp = s.dm ∨ s.sp = gb); omega)
  exact ⟨(hsp 0).trans h.c0, (hsp 1).trans h.c1, (hsp 2).trans h.c2, ⟨r, c, D, hd, hr, hc, hh⟩, h.map.only o (by show ¬ (s.bm = s.dm ∨ s.bm = gb); omega) (by show ¬ (s.bx = s.dm ∨ s.bx = gb); omega),
    (h.live.only o (by show ¬ (s.lm = s.dm ∨ s.lm = gb); omega)).mono hu, h.good, h.ord, Nat.lt_of_lt_of_le h.lt o.size, h.tab.only o (by have := h.lt; omega) (by show ¬ (0 = s.dm ∨ 0 = gb); omega), h.small⟩

def GetPost (s : Sp) (n u : Nat) (R : List Row) (xs : List Int) (w : World) (e : Ending) (w' : World) : Prop :=
  ∃ v, e = .returned (.tuple #[v, .int .i64 0]) ∧ Bts (w.heap.size ≤ ·) w' v xs ∧ SpaceAt w' s n (u + 1) R ∧ Only s.F w w'
def GtInv (dm lo n r c gb B k q : Nat) (D : Nat → Int) (f : Nat) (w3 wr : World) (v : Value) : Prop :=
  v = .slice (some ⟨gb, 0, none⟩) (64 * k) (64 * q) ∧ wr.ownsRow B 5 1 v (64 * k) ((bytesOf D f k).map (Value.int .u8)) ∧ DiskAt wr dm lo n (r + k) c D ∧ Only (fun b => b = dm ∨ b = gb) w3 wr

set_option maxHeartbeats 2000000 in
theorem get_yes (s : Sp) (n u : Nat) (R : List Row) (r : Row) (w : World) (h : SpaceAt w s n u R) (hr : r ∈ R) (hu : u ≤ 100000000000000) :
    Calls Tryd.prog 13 #[.pointer (some ⟨s.sp, 0, none⟩), .agg #[.int .i64 r.1, .int .i64 (len r), .int .i64 r.2.length]] w (GetPost s n u R r.2 w) := by
  obtain ⟨f, xs⟩ := r
  obtain ⟨q, hq⟩ : ∃ q, len (f, xs) = q := ⟨_, rfl⟩
  have hroom := h.good.room _ hr
  have hq1 := len_pos (f, xs)
  have hsm := h.small
  have HQ := Lib.hid hq
  have HS := Lib.hid h
  have HR := Lib.hid hr
  have hlen := secs_le xs.length
  change xs.length ≤ 64 * len (f, xs) at hlen
  rw [hq] at hroom hq1 hlen ⊢
  show Calls Tryd.prog 13 #[_, .agg #[.int .i64 f, .int .i64 q, .int .i64 xs.length]] w _
  change f + q ≤ n at hroom
  have hlw := h.lt
  have BW : Below w.heap.size w (w.alloc (.cells #[.int .i64 f, .int .i64 q, .int .i64 xs.length] 32)) := (Below.refl _ _).alloc (Nat.le_refl _) _
  have X3 : Box3 (w.alloc (.cells #[.int .i64 f, .int .i64 q, .int .i64 xs.length] 32)) w.heap.size f q xs.length := box3_new w f q xs.length 32
  have hX : isX R ⟨f, q, xs.length⟩ = true := isX_iff.2 ⟨_, hr, by simp [ext, hq]⟩
  have HC := Lib.hid (check_one_ext s n u R ⟨f, q, xs.length⟩ 0 _ (h.fresh BW) ⟨wf_of (by dsimp only; omega) (by dsimp only; omega), wf_of (by dsimp only; omega) (by dsimp only; omega), wf_of (by dsimp only; omega) (by dsimp only; omega)⟩ (fun _ => rfl) (fun e => by rw [hX] at e; cases e))
  have HB := Lib.hid BW
  have HX := Lib.hid X3
  obtain ⟨p3, hp3⟩ : ∃ p, w.heap.size = p := ⟨_, rfl⟩
  have HP := Lib.hid hp3
  rw [World.size_alloc] at HC
  rw [hp3] at HX HC
  obtain ⟨i0, hi, hz0, hz1, hz2⟩ := info_parts Tryd.info5
  clear h hX BW X3 hr hq
  go_enter Tryd.func13, Tryd.ntmps13
  go_wp2_with fail
  refine HC.out.mono ?_
  rintro e w1 ⟨rfl, s1, b1⟩
  have x3 := HX.out.fresh b1
  have B1 : Hid (Below w.heap.size w w1) := HB.out.trans (b1.mono HB.out.size)
  have hp4 : p3 < w1.heap.size := x3.2.2.2.2
  have X3 := Lib.hid x3
  have S1 := Lib.hid s1
  have y1 := x3.1
  have y2 := x3.2.1
  obtain ⟨w2, hmk, hown, hg2⟩ := run_make_own (P := Tryd.prog) w1 w.heap.size 33 5 i0 (.int .u8 0) 1 Tryd.underlying33 hi hz0 hz1 .i64 .i64 (64 * q) (by rw [hz2]; omega) (by unfold maxLen; omega) B1.out.size
  rw [show ((64 * q : Nat) : Int) = (q : Int) * 64 by omega] at hmk
  obtain ⟨gb, hgb⟩ : ∃ p, w1.heap.size = p := ⟨_, rfl⟩
  have HGB := Lib.hid hgb
  rw [hgb] at hown hmk hp4
  have B2 : Hid (Below w1.heap.size w1 w2) := ⟨hg2.os, hg2.tape, hg2.output, hg2.size, fun k hk => hg2.block k hk (by simp)⟩
  have X3' : Box3 w2 p3 f q xs.length := x3.fresh B2.out
  have z1 := X3'.1
  have z2 := X3'.2.1
  have z3 := X3'.2.2.1
  have HX3 := Lib.hid X3'
  have HOWN := Lib.hid hown
  clear s1 b1 x3 HX HC X3' hgb hg2 hown
  go_wp2_with fail
  refine (places_any f q _ _ (by omega) (by omega)).mono ?_
  rintro e w3 ⟨g, rfl, hg, hgl, hI, hb⟩
  have hgg : gb < g := by have := HOWN.out.lt gb rfl; omega
  have X3 : Hid (Box3 w3 p3 f q xs.length) := HX3.out.fresh hb
  have HOWN : Hid (w3.ownsRow w.heap.size 5 1 (.slice (some ⟨gb, 0, none⟩) 0 (64 * q)) 0 []) := own_only HOWN.out (Only.of_below (F := fun _ => False) hb) (fun _ _ h => h)
  have HI := Lib.hid hI
  have B3 : Hid (Below w1.heap.size w1 w3) := B2.out.trans (hb.mono B2.out.size)
  have S3 : Hid (SpaceAt w3 s n u R) := S1.out.fresh B3.out
  obtain ⟨rd, cw, D, hd, hrd, hcw, hh⟩ := S3.out.disk
  have HD := Lib.hid hd
  have HH := Lib.hid hh
  have hpo : p3 < gb := hp4
  have hss : s.sp < p3 := by have := HP.out; omega
  clear hI hb hg hgl hd hh z1 z2 z3 y1 y2 hmk HX3 B2
  go_wp2_with fail
  go_loopw [7, 26] (fun v i wr => ∃ k : Nat, k ≤ q ∧ i = .int .i64 k ∧ GtInv s.dm s.lo n rd cw gb w.heap.size k q D f w3 wr v) (fun _ i _ => q - (intOf i).toNat)
  case atStart => exact ⟨0, Nat.zero_le _, rfl, rfl, HOWN.out, HD.out, Only.refl _ _⟩
  case round =>
    obtain ⟨k, hk, rfl, rfl, hown, hd, ho⟩ := hrel
    have hs := S3.out
    obtain ⟨o0, o1, o2, o3, o4, o5⟩ := hs.ord
    by_cases hlt : k < q
    · have c0 := (ho.cell (p := ⟨s.sp, 0, none⟩) hs.lt (by show ¬ (s.sp = s.dm ∨ s.sp = gb); omega)).trans hs.c0
      have hgk : wr.cell? ⟨g, k, none⟩ = some (.int .i64 ((f + k : Nat) : Int)) := by
        have := (Vals.only HI.out ho (fun b hb => by subst hb; show ¬ (b = s.dm ∨ b = gb); omega))
        obtain ⟨b', off', c', e1, _, _, _, h3⟩ := Vals.at_ (k := k) this (by rw [List.length_map, run_len]; exact hlt)
        injection e1 with e1
        injection e1 with e1
        injection e1 with e1 e2
        subst e1 e2
        rw [List.getElem_map] at h3
        rw [Nat.zero_add] at h3
        rw [h3]
        congr 2
        have := run_get f q k hlt
        rw [List.getElem?_eq_getElem (by rw [run_len]; exact hlt)] at this
        exact Option.some.inj this
      obtain ⟨i, hi'⟩ : ∃ i, f + k = i := ⟨_, rfl⟩
      have HIi := Lib.hid hi'
      rw [hi'] at hgk
      have hin : i < n := by omega
      have HW := Lib.hid (read_yes s.dm s.lo n (rd + k) cw D i wr hd hin (by omega))
      have HO := Lib.hid ho
      have HW2 := Lib.hid hown
      have hgw := hown.lt gb rfl
      have hdm : Hid (s.dm < w.heap.size ∧ s.dm ≠ gb) := ⟨by omega, by omega⟩
      clear hs hd ho hown o0 o1 o2 o3 o4 o5 hi'
      go_wp2_with fail
      refine HW.out.mono ?_
      rintro e w4 ⟨g2, cp, rfl, hown2, d4, o4⟩
      have hown4 : w4.ownsRow w.heap.size 5 1 (.slice (some ⟨gb, 0, none⟩) (64 * k) (64 * q)) (64 * k) ((bytesOf D f k).map (Value.int .u8)) := own_only HW2.out o4 (fun b hb e => by have := hdm.out.1; omega)
      have hsrc : ∀ j u, ((sec D i).map (Value.int .u8))[j]? = some u → w4.cell? ((⟨g2, 0, none⟩ : Addr).add j) = some u := fun j u hu => hown2.cells (g := g2) rfl j u hu
      have HSRC := Lib.hid hsrc
      have HOWN4 := Lib.hid hown4
      have D4 := Lib.hid d4
      have O4 := Lib.hid o4
      clear hown2 hown4 hsrc d4 o4
      go_wp2_with (at_builtin; refine wpList_append_fits _ rfl _ _ 33 rfl w.heap.size 5 i0 1 Tryd.underlying33 hi hz1 gb (64 * k) (64 * q) _ rfl HOWN4.out ⟨g2, 0, none⟩ 64 cp ((sec D i).map (Value.int .u8)) rfl ?c0 ?c1 ?c2 ?c3 ?_)
      case c0 => rw [List.length_map, sec_len]
      case c1 => exact HSRC.out
      case c2 => intro u hu; simp at hu; obtain ⟨x, _, rfl⟩ := hu; rfl
      case c3 => omega
      intro w5 hown5 hg5
      have HOWN5 := Lib.hid hown5
      have ob5 : Only (· = gb) w4 w5 := ⟨hg5.os, hg5.tape, hg5.output, hg5.size, fun k hk hne => hg5.block k hk (fun e => hne (Option.some.inj e))⟩
      have OB5 := Lib.hid ob5
      clear hown5 hg5 ob5
      go_wp2_with fail
      go_roundw
      case rel =>
        have hs := S3.out
        obtain ⟨o0, o1, o2, o3, o4, o5⟩ := hs.ord
        have e1 : 64 * k + 64 = 64 * (k + 1) := by omega
        refine ⟨k + 1, by omega, by go_num, by rw [e1], ?_, ?_, ?_⟩
        · have := HOWN5.out
          rw [e1, ← List.map_append, ← HIi.out, ← bytesOf_succ] at this
          rw [e1, HP.out]
          exact this
        · exact D4.out.only OB5.out (by show ¬ s.dm = gb; omega) (by show ¬ s.lo = gb; omega)
        · exact (HO.out.then_ O4.out (fun _ _ h => .inl h)).then_ OB5.out (fun _ _ h => .inr h)
      case measure => simp [intOf]; omega
    · obtain rfl : k = q := by omega
      have x3 := X3.out.only ho (by show ¬ (p3 = s.dm ∨ p3 = gb); omega)
      have y3 := x3.2.2.1
      have hcap : (xs.length : Int) ≤ ((64 * k : Nat) : Int) := by omega
      have HO := Lib.hid ho
      have HD2 := Lib.hid hd
      have HW2 := Lib.hid hown
      clear hs hd ho hown x3 o0 o1 o2 o3 o4 o5
      go_wp2_with fail
      go_ret2
      obtain ⟨o0, o1, o2, o3, o4, o5⟩ := S3.out.ord
      have hp := HP.out
      have hv : Bts (w.heap.size ≤ ·) wr (.slice (some ⟨gb, 0, none⟩) (64 * k) (64 * k)) (bytesOf D f k) := Vals.of_own (by
        have e : ((bytesOf D f k).map (Value.int .u8)).length = 64 * k := by rw [List.length_map, bytesOf_len]
        rw [e]
        exact HW2.out)
      have hv2 := bts_take hv xs.length (by rw [bytesOf_len]; exact hlen)
      have hrow := bytesOf_row HH.out HR.out
      rw [HQ.out] at hrow
      rw [show (bytesOf D f k).take xs.length = xs from hrow] at hv2
      exact ⟨_, rfl, hv2, S3.out.disked HO.out (by omega) HD2.out (by omega) (by omega) (by omega) HH.out, (Only.of_below (B1.out.trans (B3.out.mono B1.out.size)) : Only s.F w w3).then_ HO.out (fun i hi e => by
        rcases e with e | e
        · exact ⟨by omega, by omega⟩
        · exfalso; omega)⟩
end Go.Proofs.YtkjpemgoiobeeaaDoor
