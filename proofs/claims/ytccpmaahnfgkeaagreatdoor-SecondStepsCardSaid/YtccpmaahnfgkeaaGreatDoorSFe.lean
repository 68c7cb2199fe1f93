/- What the function Fetch of package second does. No condition but those that each statement names. -/
import Derived.Test.YtccpmaahnfgkeaaGreatDoorSMy
namespace Go.Proofs.YtccpmaahnfgkeaaGreatDoor
set_option maxRecDepth 1000000
open Go.ChangeShapes Go.WideShapes Go.ChangeAt Go.RowKit
open Wd (Ob okO encO refsO ObjAt In64 I64)

theorem box_only {F : Nat → Prop} {w w' : World} {p : Nat} {x y z u : Value} (h : Wd.Box p x y z u w) (o : Only F w w') (hp : ¬ F p) : Wd.Box p x y z u w' :=
  ⟨⟨(o.cell (p := ⟨p, 0, none⟩) h.2.2 hp).trans h.1.1, (o.cell (p := ⟨p, 1, none⟩) h.2.2 hp).trans h.1.2.1, (o.cell (p := ⟨p, 2, none⟩) h.2.2 hp).trans h.1.2.2.1, (o.cell (p := ⟨p, 3, none⟩) h.2.2 hp).trans h.1.2.2.2⟩, fun j => (o.frozen (p := ⟨p, j, none⟩) h.2.2 hp).trans (h.2.1 j), Nat.lt_of_lt_of_le h.2.2 o.size⟩
theorem put4_only {F : Nat → Prop} {a w : World} {p : Nat} {x y z u : Value} (h : Only F a w) (hp : F p ∨ a.heap.size ≤ p) : Only F a ((((w.setCell ⟨p, 0, none⟩ x).setCell ⟨p, 1, none⟩ y).setCell ⟨p, 2, none⟩ z).setCell ⟨p, 3, none⟩ u) :=
  (((h.setCell ⟨p, 0, none⟩ hp x).setCell ⟨p, 1, none⟩ hp y).setCell ⟨p, 2, none⟩ hp z).setCell ⟨p, 3, none⟩ hp u

def zeroO : Value := .agg #[.int .i64 0, .int .i64 0, .slice none 0 0, .slice none 0 0]
def FetchNo (c : Sc) (n u m : Nat) (L : List Ent) (w : World) (e : Ending) (w' : World) : Prop := e = .returned (.tuple #[zeroO, .int .i64 4]) ∧ SecAt w' c n u m L ∧ Only c.F w w'
def FetchYes (c : Sc) (n u m : Nat) (L : List Ent) (o : Ob) (w : World) (e : Ending) (w' : World) : Prop :=
  ∃ v, e = .returned (.tuple #[v, .int .i64 0]) ∧ ObjIn (w.heap.size ≤ ·) w' v o ∧ SecAt w' c n (u + 1) m L ∧ Only c.F w w'

theorem F_lt {c : Sc} {w : World} {n u m : Nat} {L : List Ent} (h : SecAt w c n u m L) {p : Nat} (hp : w.heap.size ≤ p) : ¬ c.F p := fun hf => by have := hf.2; have := h.lt; omega

set_option maxHeartbeats 1000000 in
theorem fetch_no (c : Sc) (n u m : Nat) (L : List Ent) (i : Int) (hi : W64 i) (w : World) (h : SecAt w c n u m L) (hf : hasE L i = false) :
    Calls Tryz.prog 9 #[.pointer (some ⟨c.q, 0, none⟩), .int .i64 i] w (FetchNo c n u m L w) := by
  have HS := Lib.hid h
  have BW := box35 w (.int .i64 0) (.int .i64 0) (.slice none 0 0) (.slice none 0 0)
  have X0 := Wd.box_new w (.int .i64 0) (.int .i64 0) (.slice none 0 0) (.slice none 0 0)
  have HC := Lib.hid (scheck_one c n u m L i 4 _ (h.fresh BW) hi (fun e => by rw [hf] at e; cases e) (fun _ => rfl))
  rw [World.size_alloc] at HC
  have HB := Lib.hid BW
  have HX := Lib.hid X0
  obtain ⟨p, hp⟩ : ∃ p, w.heap.size = p := ⟨_, rfl⟩
  have HP := Lib.hid hp
  rw [hp] at HC HX
  clear h hf BW X0
  go_enter Tryz.func9, Tryz.ntmps9
  go_wp2_with fail
  refine HC.out.mono ?_
  rintro e w1 ⟨rfl, s1, b1⟩
  have S1 := Lib.hid s1
  have B1 : Hid (Below w.heap.size w w1) := HB.out.trans (b1.mono HB.out.size)
  have X1 := Lib.hid (HX.out.kept b1 HX.out.2.2 (Nat.le_refl _))
  obtain ⟨⟨z0, z1, z2, z3⟩, zf, _⟩ := X1.out
  have zf0 := zf 0
  have zf1 := zf 1
  have zf2 := zf 2
  have zf3 := zf 3
  clear zf s1 b1 hp
  go_wp2
  have hb := X1.out.put (.int .i64 0) (.int .i64 0) (.slice none 0 0) (.slice none 0 0)
  have ho : Only (· = p) w1 ((((w1.setCell ⟨p, 0, none⟩ (.int .i64 0)).setCell ⟨p, 1, none⟩ (.int .i64 0)).setCell ⟨p, 2, none⟩ (.slice none 0 0)).setCell ⟨p, 3, none⟩ (.slice none 0 0)) := put4_only (Only.refl _ _) (.inl rfl)
  have hw := HP.out
  exact bodyPost_ret (Wd.res_box2 rfl rfl hb) rfl ⟨rfl, S1.out.only ho (fun k hk e => F_lt HS.out (Nat.le_refl _) (by rw [hw, ← e]; exact hk)) (by have := HS.out.lt; omega),
    (Only.of_below B1.out : Only c.F w w1).then_ ho (fun k hk e => by omega)⟩

theorem dec_of {xs : List Int} {o : Ob} {w w' : World} {e : Ending} (h : Wd.DecPost xs w e w') (hx : xs = encO o) (hok : okO o = true) : Wd.DecYes o w e w' := by
  subst hx
  obtain ⟨h1, h2⟩ := Wd.dec_enc hok
  have := h.1 h1
  rwa [h2] at this

set_option maxHeartbeats 2000000 in
theorem fetch_yes (c : Sc) (n u m : Nat) (L : List Ent) (x : Ent) (w : World) (h : SecAt w c n u m L) (hx : x ∈ L) (hu : u ≤ 100000000000000) :
    Calls Tryz.prog 9 #[.pointer (some ⟨c.q, 0, none⟩), .int .i64 x.id] w (FetchYes c n u m L x.o w) := by
  have HS := Lib.hid h
  have HXL := Lib.hid hx
  have hfe := findE_of h.good hx
  have hok := h.good.ok x hx
  have HOK := Lib.hid hok
  have hrg := h.good.rng x hx
  have hfew := h.few
  have hi : W64 x.id := W64.of (by omega) (by omega)
  have HI := Lib.hid hi
  have BW := box35 w (.int .i64 0) (.int .i64 0) (.slice none 0 0) (.slice none 0 0)
  have X0 := Wd.box_new w (.int .i64 0) (.int .i64 0) (.slice none 0 0) (.slice none 0 0)
  have HC := Lib.hid (scheck_one c n u m L x.id 0 _ (h.fresh BW) hi (fun _ => rfl) (fun e => by unfold hasE at e; rw [hfe] at e; cases e))
  rw [World.size_alloc] at HC
  have HB := Lib.hid BW
  have HX := Lib.hid X0
  have HAX : Hid (atX (plOf L) x.id = ext (erow x)) := by
    show atX (plOf L) x.id = _
    unfold atX plOf
    rw [hfe]; rfl
  have hle := Wd.enc_le hok
  obtain ⟨p, hp⟩ : ∃ p, w.heap.size = p := ⟨_, rfl⟩
  have HP := Lib.hid hp
  rw [hp] at HC HX
  have HR : Hid (erow x ∈ rowsE L) := List.mem_map.2 ⟨x, hx, rfl⟩
  clear h hx hok hrg BW X0 hfe hi
  obtain ⟨i, hid⟩ : ∃ i : Int, (x.id : Int) = i := ⟨_, rfl⟩
  rw [hid] at HC HI HAX ⊢
  clear hid
  go_enter Tryz.func9, Tryz.ntmps9
  go_wp2_with fail
  refine HC.out.mono ?_
  rintro e w1 ⟨rfl, s1, b1⟩
  have B1 : Hid (Below w.heap.size w w1) := HB.out.trans (b1.mono HB.out.size)
  have X1 := Lib.hid (HX.out.kept b1 HX.out.2.2 (Nat.le_refl _))
  have s1d : SecAt w1.drew c n u m L := s1.fresh (below_drewN w1 w1.heap.size 1)
  have c1 := s1.c1
  have c2 := s1.c2
  have hlk := s1d.pl.look1 i HI.out
  rw [HAX.out] at hlk
  replace hlk : (Instr.lookup 67 (.map (some c.pm)) (.int .i64 i) false).run Tryz.prog w1.drew = .ok (.agg #[.int .i64 (erow x).1, .int .i64 (len (erow x)), .int .i64 (erow x).2.length]) w1.drew := hlk
  have HG := Lib.hid (get_yes c.s n u (rowsE L) (erow x) w1.drew s1d.sp HR.out hu)
  have S1 := Lib.hid s1d
  generalize len (erow x) = ln at hlk HG
  generalize hr : erow x = r at hlk HG
  obtain ⟨f, ys⟩ := r
  dsimp only at hlk HG
  have HKQ : Hid (∀ w5, Only c.s.F w1.drew w5 → w5.cell? ⟨c.q, 1, none⟩ = some (.map (some c.pm)) ∧ w5.cell? ⟨c.q, 2, none⟩ = some (.pointer (some ⟨c.s.sp, 0, none⟩))) := fun w5 o =>
    ⟨(o.cell (p := ⟨c.q, 1, none⟩) S1.out.lt (s_not S1.out).1).trans S1.out.c1, (o.cell (p := ⟨c.q, 2, none⟩) S1.out.lt (s_not S1.out).1).trans S1.out.c2⟩
  clear s1 b1 hp s1d
  go_wp2_with fail
  go_region_held3 (fun w' => w'.cell? ⟨c.q, 1, none⟩ = some (.map (some c.pm)) ∧ w'.cell? ⟨c.q, 2, none⟩ = some (.pointer (some ⟨c.s.sp, 0, none⟩))) (first | go_keep | (exact HKQ.out _ o2)) (first | (go_at_call 33; refine HG.out.mono ?_; rintro e w2 ⟨v2, rfl, hb2, s2, o2⟩))
  have hys : ys = encO x.o := (congrArg Prod.snd hr).symm
  have hpw := HP.out
  have hlw := HS.out.lt
  have hsz : w1.drew.heap.size = w1.heap.size := rfl
  have hnp : ¬ c.s.F p := fun hf => by have := c.inner HS.out _ hf; exact F_lt HS.out (by omega) this
  have X2 := Lib.hid (box_only (X1.out.kept (below_drewN w1 w1.heap.size 1) X1.out.2.2 (Nat.le_refl _)) o2 hnp)
  have S2 := Lib.hid (S1.out.inner o2 s2 (Nat.le_succ u))
  have O2 : Hid (Only c.F w w2) := (Only.of_below (B1.out.trans (below_drewN w1 _ 1)) : Only c.F w w1.drew).then_ o2 (fun k _ hk => c.inner HS.out k hk)
  have hby : Bytes ys := by
    have := S1.out.sp.good.bytes _ HR.out
    rw [hr] at this
    exact this
  have HRW : Hid (Wd.RowB w2 v2 ys) := by
    have hw := bts_w hb2
    obtain ⟨a, cp, rfl, hc⟩ := hb2.form
    exact ⟨hw, hby, a, cp, rfl, hc⟩
  have HD := Lib.hid (Wd.decode_long v2 ys w2 HRW.out (by rw [hys]; exact hle.1) (by rw [hys]; have := hle.2; omega))
  have HYS := Lib.hid hys
  clear hb2 s2 o2 hys hpw hlw hsz hnp hby hr hlk c1 c2
  go_wp2_with fail
  refine HD.out.mono ?_
  intro e w3 hd
  obtain ⟨wv, bv, q, hq, rfl, hh, b3⟩ := dec_of hd HYS.out HOK.out
  have X3 := Lib.hid (X2.out.kept b3 X2.out.2.2 (Nat.le_refl _))
  have hh1 := hh.1
  have hh2 := hh.2.1
  obtain ⟨_, _, a1, c1, rfl, _⟩ := hh1
  obtain ⟨_, _, a2, c2, rfl, _⟩ := hh2
  have HH := Lib.hid hh
  have B3 := Lib.hid b3
  have HQ := Lib.hid hq
  obtain ⟨⟨z0, z1, z2, z3⟩, zf, _⟩ := X3.out
  have zf0 := zf 0
  have zf1 := zf 1
  have zf2 := zf 2
  have zf3 := zf 3
  clear hd hh b3 hq zf
  go_wp2
  have hb := X3.out.put (.int .i64 x.o.c) (.int .i64 x.o.k) (.slice a1 x.o.w.length c1) (.slice a2 x.o.b.length c2)
  have ho : Only (· = p) w3 ((((w3.setCell ⟨p, 0, none⟩ (.int .i64 x.o.c)).setCell ⟨p, 1, none⟩ (.int .i64 x.o.k)).setCell ⟨p, 2, none⟩ (.slice a1 x.o.w.length c1)).setCell ⟨p, 3, none⟩ (.slice a2 x.o.b.length c2)) := put4_only (Only.refl _ _) (.inl rfl)
  have hw := HP.out
  have hx2 := X2.out.2.2
  have hs2 := O2.out.size
  refine bodyPost_ret (Wd.res_box2 rfl rfl hb) rfl ?_
  refine ⟨_, rfl, ?_, ?_, ?_⟩
  · exact ((ObjIn.of_hi HH.out).only ho (fun b hb e => by have := HQ.out; omega)).kind (fun b _ hb => by have := HQ.out; omega)
  · exact (S2.out.fresh B3.out).only ho (fun k hk e => F_lt HS.out (Nat.le_refl _) (by rw [hw, ← e]; exact hk)) (by have := HS.out.lt; omega)
  · exact (O2.out.then_ (Only.of_below B3.out) (fun _ _ h => h)).then_ ho (fun k hk e => by omega)
end Go.Proofs.YtccpmaahnfgkeaaGreatDoor
