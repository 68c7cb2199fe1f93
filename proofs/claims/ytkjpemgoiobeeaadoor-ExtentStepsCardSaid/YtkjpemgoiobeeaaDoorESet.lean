/- What the method Set of package extent does. No condition but those that each statement names. -/
import Derived.Test.YtkjpemgoiobeeaaDoorEFree
import Derived.Test.YtkjpemgoiobeeaaDoorELay
namespace Go.Proofs.YtkjpemgoiobeeaaDoor
set_option maxRecDepth 1000000
open Go.ChangeShapes Go.WideShapes Go.ChangeAt Go.RowKit

set_option maxHeartbeats 2000000 in
theorem set_none {N : Nat → Prop} (s : Sp) (n u : Nat) (R : List Row) (f q z : Int) (v : Value) (xs : List Int) (w : World) (h : SpaceAt w s n u R) (hv : Bts N w v xs) (hx : Ext.wf ⟨f, q, z⟩) (hX : isX R ⟨f, q, z⟩ = false) :
    Calls Tryd.prog 16 #[.pointer (some ⟨s.sp, 0, none⟩), .agg #[.int .i64 f, .int .i64 q, .int .i64 z], v] w (FullPost s n u R 4 w) := by
  have BW : Below w.heap.size w ((w.alloc (.cells #[.int .i64 f, .int .i64 q, .int .i64 z] 32)).alloc (.cells #[.int .i64 0, .int .i64 0, .int .i64 0] 32)) := ((Below.refl _ _).alloc (Nat.le_refl _) _).alloc (by simp) _
  have HC := Lib.hid (check_one_ext s n u R ⟨f, q, z⟩ 4 _ (h.fresh BW) hx (fun e => by rw [hX] at e; cases e) (fun _ => rfl))
  have HB := Lib.hid BW
  have X6 := box3_new (w.alloc (.cells #[.int .i64 f, .int .i64 q, .int .i64 z] 32)) 0 0 0 32
  have HLW := Lib.hid h.lt
  obtain ⟨a, cp, rfl, _⟩ := hv.form
  rw [World.size_alloc, World.size_alloc] at HC
  rw [World.size_alloc] at X6
  have HX := Lib.hid X6
  obtain ⟨p, hp⟩ : ∃ p, w.heap.size = p := ⟨_, rfl⟩
  have HP := Lib.hid hp
  rw [hp] at HC HX
  clear h hX hx BW hv X6
  go_enter Tryd.func16, Tryd.ntmps16
  go_wp2_with fail
  refine HC.out.mono ?_
  rintro e w1 ⟨rfl, s1, b1⟩
  have S1 := Lib.hid s1
  have x6 := HX.out.fresh b1
  have X6 := Lib.hid x6
  have B1 : Hid (Below w.heap.size w w1) := HB.out.trans (b1.mono HB.out.size)
  obtain ⟨y1, y2, y3, yf, _⟩ := x6
  have yf0 := yf 0
  have yf1 := yf 1
  have yf2 := yf 2
  clear s1 b1 yf HC
  obtain ⟨p6, hp6⟩ : ∃ p6, p + 1 = p6 := ⟨_, rfl⟩
  have HP6 := Lib.hid hp6
  rw [hp6] at y1 y2 y3 yf0 yf1 yf2 X6 ⊢
  clear hp6 hp
  go_wp2_with fail
  have hb6 := X6.out.put 0 0 0
  have ho6 : Only (· = p6) w1 (((w1.setCell ⟨p6, 0, none⟩ (.int .i64 0)).setCell ⟨p6, 1, none⟩ (.int .i64 0)).setCell ⟨p6, 2, none⟩ (.int .i64 0)) := put3_only (Only.refl _ _) (.inl rfl)
  generalize ((w1.setCell ⟨p6, 0, none⟩ (.int .i64 0)).setCell ⟨p6, 1, none⟩ (.int .i64 0)).setCell ⟨p6, 2, none⟩ (.int .i64 0) = w3 at hb6 ho6 ⊢
  (try simp only [Exit.inBlock, Exit.then])
  have hp := HP.out
  have hp6 := HP6.out
  have hlw := HLW.out
  have hord := S1.out.ord
  refine bodyPost_ret (res_box2 rfl rfl hb6) rfl ⟨rfl, S1.out.only ho6 (fun k hk e => by have := hk.2; omega) (by omega), (Only.of_below B1.out : Only s.F w w1).then_ ho6 (fun i hi e => by omega)⟩

/-- Where Set finds room: at the same place, or where there is room first. -/
def Room (n : Nat) (R : List Row) (r : Row) (p a : Nat) (ok : Bool) : Prop := (p = len r ∧ a = r.1 ∧ ok = true) ∨ (p ≠ len r ∧ FirstIs (tk (without R (ext r))) n p a ok)

theorem another_room (s : Sp) (n u : Nat) (R : List Row) (r : Row) (p a : Nat) (ok : Bool) (w : World) (h : SpaceAt w s n u R) (hr : r ∈ R) (hp1 : 1 ≤ p) (hp2 : p ≤ 9223372036854775807) (hR : Room n R r p a ok) :
    Calls Tryd.prog 34 #[.pointer (some ⟨s.sp, 0, none⟩), .agg #[.int .i64 r.1, .int .i64 (len r), .int .i64 r.2.length], .int .i64 p] w
      fun e w' => e = .returned (.tuple #[.int .i64 a, .bool ok]) ∧ SpaceAt w' s n u R ∧ Only s.F w w' := by
  rcases hR with ⟨h1, h2, h3⟩ | ⟨h1, h2⟩
  · rw [h1, h2, h3]
    exact (another_same s r.1 (len r) r.2.length w).mono fun e w' ⟨he, hb⟩ => ⟨he, h.fresh hb, Only.of_below hb⟩
  · exact (another_other s n u R r p w h hr h1 hp1 hp2).mono fun e w' ⟨a', ok', he, hf, hs, ho⟩ => by
      obtain ⟨rfl, rfl⟩ := firstIs_eq h2 hf
      exact ⟨he, hs, ho⟩

def SetPost (s : Sp) (n u : Nat) (R : List Row) (a : Nat) (xs : List Int) (w : World) (e : Ending) (w' : World) : Prop :=
  e = .returned (.tuple #[.agg #[.int .i64 a, .int .i64 (secs xs.length), .int .i64 xs.length], .int .i64 0]) ∧ SpaceAt w' s n (u + 1) (R ++ [(a, xs)]) ∧ Only s.F w w'

theorem room_free {n : Nat} {R : List Row} {r : Row} {p a : Nat} (g : Good n R) (hr : r ∈ R) (h : Room n R r p a true) : a + p ≤ n ∧ ∀ k, k < p → tk (without R (ext r)) (a + k) = false := by
  rcases h with ⟨h1, h2, _⟩ | ⟨_, h2⟩
  · subst h1 h2
    refine ⟨g.room r hr, fun k hk => ?_⟩
    rw [tk_false]
    intro q hq
    obtain ⟨hq, hne⟩ := mem_without.1 hq
    have := g.off hq hr (fun e => hne (by rw [e]))
    unfold Off at this
    omega
  · rcases h2 with ⟨_, h3, h4, _⟩ | ⟨h3, _⟩
    · exact ⟨h3, h4⟩
    · cases h3

set_option maxHeartbeats 4000000 in
theorem set_any {N : Nat → Prop} (s : Sp) (n u : Nat) (R : List Row) (r : Row) (a : Nat) (ok : Bool) (v : Value) (xs : List Int) (w : World) (h : SpaceAt w s n u R) (hr : r ∈ R) (hv : Bts N w v xs) (hN : ∀ b, N b → ¬ s.F b) (hy : Bytes xs) (hu : u ≤ 100000000000000)
    (hl : xs.length ≤ 9223372036854775807) (hR : Room n R r (secs xs.length) a ok) :
    Calls Tryd.prog 16 #[.pointer (some ⟨s.sp, 0, none⟩), .agg #[.int .i64 r.1, .int .i64 (len r), .int .i64 r.2.length], v] w
      (if ok = true then SetPost s n u (without R (ext r)) a xs w else FullPost s n u R 3 w) := by
  have hroom := h.good.room _ hr
  have hsm := h.small
  have hlen := secs_le r.2.length
  change r.2.length ≤ 64 * len r at hlen
  have HLW := Lib.hid h.lt
  have HR := Lib.hid hr
  have HN := Lib.hid hN
  have hwf : (ext r).wf := ⟨wf_of (by show (_ : Int) ≤ (r.1 : Int); omega) (by show (r.1 : Int) ≤ _; omega), wf_of (by show (_ : Int) ≤ (len r : Int); omega) (by show (len r : Int) ≤ _; omega), wf_of (by show (_ : Int) ≤ (r.2.length : Int); omega) (by show (r.2.length : Int) ≤ _; omega)⟩
  have hX : isX R (ext r) = true := isX_iff.2 ⟨_, hr, rfl⟩
  have BW : Below w.heap.size w ((w.alloc (.cells #[.int .i64 r.1, .int .i64 (len r), .int .i64 r.2.length] 32)).alloc (.cells #[.int .i64 0, .int .i64 0, .int .i64 0] 32)) := ((Below.refl _ _).alloc (Nat.le_refl _) _).alloc (by simp) _
  have HC := Lib.hid (check_one_ext s n u R (ext r) 0 _ (h.fresh BW) hwf (fun _ => rfl) (fun e => by rw [hX] at e; cases e))
  have HB := Lib.hid BW
  have X4 := (box3_new w r.1 (len r) r.2.length 32).fresh ((Below.refl _ _).alloc (Nat.le_refl _) (.cells #[.int .i64 0, .int .i64 0, .int .i64 0] 32))
  have X6 := box3_new (w.alloc (.cells #[.int .i64 r.1, .int .i64 (len r), .int .i64 r.2.length] 32)) 0 0 0 32
  have HV := Lib.hid hv
  obtain ⟨a0, cp, rfl, _⟩ := hv.form
  rw [World.size_alloc, World.size_alloc] at HC
  rw [World.size_alloc] at X6
  have HX := Lib.hid X6
  have HX4 := Lib.hid X4
  have hs1 := secs_pos xs.length
  have hs2 : secs xs.length ≤ 9223372036854775807 := by unfold secs; omega
  have HQ := Lib.hid (fun w => sectors_any xs.length w hl)
  have HAN := Lib.hid (fun w0 h0 => another_room s n u R r (secs xs.length) a ok w0 h0 hr hs1 hs2 hR)
  have HRM := Lib.hid (fun w0 h0 => remove_any s n u R r w0 h0 hr)
  have HST : Hid (ok = true → ∀ (w0 : World) (h0 : SpaceAt w0 s n u (without R (ext r))) (hb : Bts N w0 (.slice a0 xs.length cp) xs), Calls Tryd.prog 28 #[.pointer (some ⟨s.sp, 0, none⟩), .int .i64 a, .slice a0 xs.length cp] w0 (StPost s n u (without R (ext r)) a xs w0)) := fun hok w0 h0 hb => by
    subst hok
    obtain ⟨e1, e2⟩ := room_free h.good hr hR
    exact store_any s n u _ a _ xs w0 h0 hb hN hy e1 e2 hu
  obtain ⟨p, hp⟩ : ∃ p, w.heap.size = p := ⟨_, rfl⟩
  obtain ⟨p6, hp6⟩ : ∃ p6, p + 1 = p6 := ⟨_, rfl⟩
  have HP := Lib.hid (And.intro hp hp6)
  obtain ⟨q, hq⟩ : ∃ q, secs xs.length = q := ⟨_, rfl⟩
  have HQQ := Lib.hid hq
  rw [hq] at HQ HAN hs1 hs2
  have HC : Hid (Calls Tryd.prog 31 #[.pointer (some ⟨s.sp, 0, none⟩), .slice (some ⟨w.heap.size + 1 + 1, 0, none⟩) 1 1] (((w.alloc (.cells #[.int .i64 r.1, .int .i64 (len r), .int .i64 r.2.length] 32)).alloc (.cells #[.int .i64 0, .int .i64 0, .int .i64 0] 32)).alloc (.cells #[.int .i64 r.1, .int .i64 (len r), .int .i64 r.2.length] 32)) _) := HC.out
  obtain ⟨f, ys⟩ := r
  dsimp only at HC HAN HRM HX HX4 ⊢
  generalize len (f, ys) = m at HC HAN HRM HX HX4 hroom hlen HB ⊢
  clear h hX hwf BW hv X6 X4 hr hN hR hq
  rw [hp] at HC HX HX4
  rw [hp6] at HX
  clear hp6
  go_enter Tryd.func16, Tryd.ntmps16
  go_wp2_with fail
  refine HC.out.mono ?_
  rintro e w1 ⟨rfl, s1, b1⟩
  have S1 := Lib.hid s1
  have X6 := Lib.hid (HX.out.fresh b1)
  have x4 := HX4.out.fresh b1
  have X4 := Lib.hid x4
  have B1 : Hid (Below w.heap.size w w1) := HB.out.trans (b1.mono HB.out.size)
  have S1d : Hid (SpaceAt w1.drew s n u R) := s1.fresh ⟨rfl, rfl, rfl, Nat.le_refl _, fun _ _ => rfl⟩
  obtain ⟨y1, y2, y3, yf, _⟩ := x4
  have HK : Hid (∀ (w5 w6 : World), Only s.F w5 w6 →
      (w5.cell? ⟨p, 0, none⟩ = some (.int .i64 f) ∧ w5.cell? ⟨p, 1, none⟩ = some (.int .i64 m) ∧ w5.cell? ⟨p, 2, none⟩ = some (.int .i64 ys.length)) →
      (w6.cell? ⟨p, 0, none⟩ = some (.int .i64 f) ∧ w6.cell? ⟨p, 1, none⟩ = some (.int .i64 m) ∧ w6.cell? ⟨p, 2, none⟩ = some (.int .i64 ys.length))) := fun w5 w6 o ⟨h2, h3, h4⟩ => by
    have hp := HP.out.1
    have hlw := HLW.out
    have e2 : ∀ (j : Nat) (v : Value), w5.cell? ⟨p, j, none⟩ = some v → w6.cell? ⟨p, j, none⟩ = some v := fun j v hv => (o.cell (p := ⟨p, j, none⟩) (World.block_lt_of_cell? _ _ hv) (fun h => by have := h.2; dsimp only at this; omega)).trans hv
    exact ⟨e2 _ _ h2, e2 _ _ h3, e2 _ _ h4⟩
  clear s1 b1 yf HC hp
  go_wp2_with fail
  go_region_held3 (fun w' => w'.cell? ⟨p, 0, none⟩ = some (.int .i64 f) ∧ w'.cell? ⟨p, 1, none⟩ = some (.int .i64 m) ∧ w'.cell? ⟨p, 2, none⟩ = some (.int .i64 ys.length)) (first | go_keep | (exact HK.out _ _ o6 (by assumption))) (first | (go_at_call 23; refine (HQ.out _).mono ?_; rintro e w5 ⟨rfl, rfl⟩) | (go_at_call 34; refine (HAN.out _ S1d.out).mono ?_; rintro e w6 ⟨rfl, s6, o6⟩))
  rw [HP.out.2]
  have S6 := Lib.hid s6
  have B6 : Hid (Only s.F w w6) := (Only.of_below B1.out : Only s.F w w1).then_ (Only.then_ (F := s.F) (Only.of_below (below_drewN w1 w1.heap.size 1)) o6 (fun _ _ h => h)) (fun _ _ h => h)
  have O6 : Hid (Only s.F w1 w6) := Only.then_ (F := s.F) (Only.of_below (below_drewN w1 w1.heap.size 1)) o6 (fun _ _ h => h)
  have hp := HP.out.1
  have hp6 := HP.out.2
  have hlw := HLW.out
  have x6 := X6.out.only O6.out (fun h => by have := h.2; omega)
  have x4 := X4.out.only O6.out (fun h => by have := h.2; omega)
  have X6 := Lib.hid x6
  have X4 := Lib.hid x4
  clear s6 o6 hp hp6 hlw y1 y2 y3 S1 S1d
  cases ok
  · obtain ⟨y1, y2, y3, yf, _⟩ := x6
    have yf0 := yf 0
    have yf1 := yf 1
    have yf2 := yf 2
    clear yf x4
    go_wp2_with fail
    have hb6 := X6.out.put 0 0 0
    have ho6 : Only (· = p6) w6 (((w6.setCell ⟨p6, 0, none⟩ (.int .i64 0)).setCell ⟨p6, 1, none⟩ (.int .i64 0)).setCell ⟨p6, 2, none⟩ (.int .i64 0)) := put3_only (Only.refl _ _) (.inl rfl)
    generalize ((w6.setCell ⟨p6, 0, none⟩ (.int .i64 0)).setCell ⟨p6, 1, none⟩ (.int .i64 0)).setCell ⟨p6, 2, none⟩ (.int .i64 0) = w3 at hb6 ho6 ⊢
    (try simp only [Exit.inBlock, Exit.then])
    have hp := HP.out.1
    have hp6 := HP.out.2
    have hlw := HLW.out
    have hord := S6.out.ord
    refine bodyPost_ret (res_box2 rfl rfl hb6) rfl ?_
    exact ⟨rfl, S6.out.only ho6 (fun k hk e => by have := hk.2; omega) (by omega), B6.out.then_ ho6 (fun i hi e => by omega)⟩
  · obtain ⟨y1, y2, y3, _, _⟩ := x4
    clear x6
    go_wp2_with fail
    refine (HRM.out w6 S6.out).mono ?_
    rintro e w7 ⟨rfl, s7, o7⟩
    have S7 := Lib.hid s7
    have B7 : Hid (Only s.F w w7) := B6.out.then_ o7 (fun _ _ h => h)
    have V7 : Hid (Bts N w7 (.slice a0 xs.length cp) xs) := HV.out.only B7.out HN.out
    have hp := HP.out.1
    have hp6 := HP.out.2
    have hlw := HLW.out
    have X7 := Lib.hid (X6.out.only o7 (fun h => by have := h.2; omega))
    clear s7 o7 hp hp6 hlw
    go_wp2_with fail
    refine (HST.out (by trivial) w7 S7.out V7.out).mono ?_
    rintro e w8 ⟨rfl, s8, o8⟩
    have S8 := Lib.hid s8
    have B8 : Hid (Only s.F w w8) := B7.out.then_ o8 (fun _ _ h => h)
    have hp := HP.out.1
    have hp6 := HP.out.2
    have hlw := HLW.out
    have x8 := X7.out.only o8 (fun h => by have := h.2; omega)
    have X8 := Lib.hid x8
    obtain ⟨z1, z2, z3, zf, _⟩ := x8
    have zf0 := zf 0
    have zf1 := zf 1
    have zf2 := zf 2
    rw [HQQ.out]
    clear s8 o8 hp hp6 hlw zf
    go_wp2_with fail
    have hb6 := X8.out.put a q xs.length
    have ho6 : Only (· = p6) w8 (((w8.setCell ⟨p6, 0, none⟩ (.int .i64 a)).setCell ⟨p6, 1, none⟩ (.int .i64 q)).setCell ⟨p6, 2, none⟩ (.int .i64 xs.length)) := put3_only (Only.refl _ _) (.inl rfl)
    generalize ((w8.setCell ⟨p6, 0, none⟩ (.int .i64 a)).setCell ⟨p6, 1, none⟩ (.int .i64 q)).setCell ⟨p6, 2, none⟩ (.int .i64 xs.length) = w9 at hb6 ho6 ⊢
    (try simp only [Exit.inBlock, Exit.then])
    have hp := HP.out.1
    have hp6 := HP.out.2
    have hlw := HLW.out
    have hord := S8.out.ord
    refine bodyPost_ret (res_box2 rfl rfl hb6) rfl ?_
    exact ⟨by rw [HQQ.out]; rfl, S8.out.only ho6 (fun k hk e => by have := hk.2; omega) (by omega), B8.out.then_ ho6 (fun i hi e => by omega)⟩
end Go.Proofs.YtkjpemgoiobeeaaDoor
