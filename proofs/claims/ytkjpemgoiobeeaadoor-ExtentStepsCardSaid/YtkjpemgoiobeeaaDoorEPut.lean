/- What the method Put of package extent does. No condition but those that each statement names. -/
import Derived.Test.YtkjpemgoiobeeaaDoorECk
namespace Go.Proofs.YtkjpemgoiobeeaaDoor
set_option maxRecDepth 1000000
open Go.ChangeShapes Go.WideShapes Go.ChangeAt Go.RowKit

theorem first_is (m x n : Nat) (S : Nat → Bool) (c a : Nat) (ok : Bool) (w : World) (h : MapAt w m x n S) (hT : Tab w) (hc : 1 ≤ c) (hc2 : c ≤ 9223372036854775807) (hF : FirstIs S n c a ok) :
    Calls Tryd.prog 27 #[.pointer (some ⟨m, 0, none⟩), .int .i64 c] w fun e w' => e = .returned (.tuple #[.int .i64 a, .bool ok]) ∧ ∃ d, w' = w.drewN d :=
  (first_any m x n S c w h hT hc hc2).mono fun e w' ⟨a', ok', d, he, hf, hw⟩ => by
    obtain ⟨rfl, rfl⟩ := firstIs_eq hF hf
    exact ⟨he, d, hw⟩
theorem sectors_quiet (k : Nat) (w : World) (h : k ≤ 9223372036854775807) :
    Calls Tryd.prog 23 #[.int .i64 k] w fun e w' => e = .returned (.int .i64 (secs k)) ∧ ∃ d, w' = w.drewN d :=
  (sectors_any k w h).mono fun _ _ ⟨he, hw⟩ => ⟨he, 0, hw.symm⟩

def PutPost (s : Sp) (n u : Nat) (R : List Row) (a : Nat) (xs : List Int) (w : World) (e : Ending) (w' : World) : Prop :=
  e = .returned (.tuple #[.agg #[.int .i64 a, .int .i64 (secs xs.length), .int .i64 xs.length], .int .i64 0]) ∧ SpaceAt w' s n (u + 1) (R ++ [(a, xs)]) ∧ Only s.F w w'
def FullPost (s : Sp) (n u : Nat) (R : List Row) (t : Int) (w : World) (e : Ending) (w' : World) : Prop :=
  e = .returned (.tuple #[.agg #[.int .i64 0, .int .i64 0, .int .i64 0], .int .i64 t]) ∧ SpaceAt w' s n u R ∧ Only s.F w w'

set_option maxHeartbeats 1000000 in
theorem put_yes {N : Nat → Prop} (s : Sp) (n u : Nat) (R : List Row) (a : Nat) (v : Value) (xs : List Int) (w : World) (h : SpaceAt w s n u R) (hv : Bts N w v xs) (hN : ∀ b, N b → ¬ s.F b) (hy : Bytes xs) (hu : u ≤ 100000000000000)
    (hl : xs.length ≤ 9223372036854775807) (hF : FirstIs (tk R) n (secs xs.length) a true) :
    Calls Tryd.prog 11 #[.pointer (some ⟨s.sp, 0, none⟩), v] w (PutPost s n u R a xs w) := by
  have hF' := hF
  rcases hF' with ⟨_, hroom, hfree, _⟩ | ⟨h0, _⟩
  case inr => cases h0
  have X4 := box3_new w 0 0 0 32
  have BW : Below w.heap.size w (w.alloc (.cells #[.int .i64 0, .int .i64 0, .int .i64 0] 32)) := (Below.refl _ _).alloc (Nat.le_refl _) _
  have S0 := h.fresh BW
  have V0 := hv.only (Only.of_below (F := fun _ => False) BW) (fun _ _ h => h)
  have HLW := Lib.hid h.lt
  have hs1 := secs_pos xs.length
  have hs2 : secs xs.length ≤ 9223372036854775807 := by unfold secs; omega
  have HQ := Lib.hid (fun w => sectors_quiet xs.length w hl)
  have HST := Lib.hid (fun (w0 : World) (v : Value) (h : SpaceAt w0 s n u R) (hb : Bts N w0 v xs) => store_any s n u R a v xs w0 h hb hN hy hroom hfree hu)
  obtain ⟨a0, cp, rfl, _⟩ := hv.form
  obtain ⟨p4, hp4⟩ : ∃ p, w.heap.size = p := ⟨_, rfl⟩
  have HP := Lib.hid hp4
  obtain ⟨q, hq⟩ : ∃ q, secs xs.length = q := ⟨_, rfl⟩
  have HQQ := Lib.hid hq
  rw [hq] at hs1 hs2 hF hroom hfree HQ
  rw [hp4] at X4
  clear hv h
  go_enter Tryd.func11, Tryd.ntmps11
  go_wp2_with fail
  clear hp4
  generalize w.alloc (.cells #[.int .i64 0, .int .i64 0, .int .i64 0] 32) = w0 at X4 BW S0 V0 ⊢
  have c1 := S0.c1
  have HF : Hid (∀ d, Calls Tryd.prog 27 #[.pointer (some ⟨s.bm, 0, none⟩), .int .i64 q] (w0.drewN d) fun e w' => e = .returned (.tuple #[.int .i64 a, .bool true]) ∧ ∃ d', w' = (w0.drewN d).drewN d') := fun d => first_is s.bm s.bx n (tk R) q a true (w0.drewN d) (S0.map.drewN d) (S0.tab.heap rfl) hs1 hs2 hF
  have HX4 := Lib.hid X4
  have HBW := Lib.hid BW
  have HS0 := Lib.hid S0
  have HV0 := Lib.hid V0
  clear X4 BW S0 V0 hF hfree hq
  go_quiet (first | (go_at_call 23; exact Calls.quiet_of (HQ.out _)) | (go_at_call 27; exact Calls.quiet_of (HF.out _)))
  have S1 : Hid (SpaceAt (w0.drewN nq) s n u R) := HS0.out.fresh (below_drewN _ _ _)
  have V1 : Hid (Bts N (w0.drewN nq) (.slice a0 xs.length cp) xs) := HV0.out.heap rfl
  have X1 : Hid (Box3 (w0.drewN nq) p4 0 0 0) := HX4.out.fresh (below_drewN _ _ _)
  have B1 : Hid (Below w0.heap.size w0 (w0.drewN nq)) := below_drewN _ _ _
  generalize w0.drewN nq = w1 at S1 V1 X1 B1 ⊢
  go_wp2_with fail
  refine (HST.out w1 _ S1.out V1.out).mono ?_
  rintro e w2 ⟨rfl, s2, o2⟩
  have S2 := Lib.hid s2
  have O2 := Lib.hid o2
  have hp := HP.out
  have hlw := HLW.out
  have x2 := X1.out.only o2 (fun h => by have := h.2; omega)
  have X2 := Lib.hid x2
  obtain ⟨y1, y2, y3, yf, _⟩ := x2
  have yf0 := yf 0
  have yf1 := yf 1
  have yf2 := yf 2
  have hq := HQQ.out
  rw [hq]
  clear s2 o2 yf hp hlw hq
  go_wp2_with fail
  have hb6 := X2.out.put a q xs.length
  have ho6 : Only (· = p4) w2 (((w2.setCell ⟨p4, 0, none⟩ (.int .i64 a)).setCell ⟨p4, 1, none⟩ (.int .i64 q)).setCell ⟨p4, 2, none⟩ (.int .i64 xs.length)) := put3_only (Only.refl _ _) (.inl rfl)
  generalize ((w2.setCell ⟨p4, 0, none⟩ (.int .i64 a)).setCell ⟨p4, 1, none⟩ (.int .i64 q)).setCell ⟨p4, 2, none⟩ (.int .i64 xs.length) = w3 at hb6 ho6 ⊢
  (try simp only [Exit.inBlock, Exit.then])
  have hp := HP.out
  have hlw := HLW.out
  have hord := S2.out.ord
  have hb0 := HBW.out.trans (B1.out.mono HBW.out.size)
  refine bodyPost_ret (res_box2 rfl rfl hb6) rfl ⟨by rw [HQQ.out]; rfl, S2.out.only ho6 (fun k hk e => by have := hk.2; omega) (by omega), ((Only.of_below hb0 : Only s.F w w1).then_ O2.out (fun _ _ h => h)).then_ ho6 (fun i hi e => by omega)⟩

set_option maxHeartbeats 1000000 in
theorem put_no {N : Nat → Prop} (s : Sp) (n u : Nat) (R : List Row) (a : Nat) (v : Value) (xs : List Int) (w : World) (h : SpaceAt w s n u R) (hv : Bts N w v xs)
    (hl : xs.length ≤ 9223372036854775807) (hF : FirstIs (tk R) n (secs xs.length) a false) :
    Calls Tryd.prog 11 #[.pointer (some ⟨s.sp, 0, none⟩), v] w (FullPost s n u R 3 w) := by
  have X4 := box3_new w 0 0 0 32
  have BW : Below w.heap.size w (w.alloc (.cells #[.int .i64 0, .int .i64 0, .int .i64 0] 32)) := (Below.refl _ _).alloc (Nat.le_refl _) _
  have S0 := h.fresh BW
  have HLW := Lib.hid h.lt
  have hs1 := secs_pos xs.length
  have hs2 : secs xs.length ≤ 9223372036854775807 := by unfold secs; omega
  have HQ := Lib.hid (fun w => sectors_quiet xs.length w hl)
  obtain ⟨a0, cp, rfl, _⟩ := hv.form
  obtain ⟨p4, hp4⟩ : ∃ p, w.heap.size = p := ⟨_, rfl⟩
  have HP := Lib.hid hp4
  obtain ⟨q, hq⟩ : ∃ q, secs xs.length = q := ⟨_, rfl⟩
  rw [hq] at hs1 hs2 hF HQ
  rw [hp4] at X4
  clear hv h
  go_enter Tryd.func11, Tryd.ntmps11
  go_wp2_with fail
  clear hp4
  generalize w.alloc (.cells #[.int .i64 0, .int .i64 0, .int .i64 0] 32) = w0 at X4 BW S0 ⊢
  have c1 := S0.c1
  have HF : Hid (∀ d, Calls Tryd.prog 27 #[.pointer (some ⟨s.bm, 0, none⟩), .int .i64 q] (w0.drewN d) fun e w' => e = .returned (.tuple #[.int .i64 a, .bool false]) ∧ ∃ d', w' = (w0.drewN d).drewN d') := fun d => first_is s.bm s.bx n (tk R) q a false (w0.drewN d) (S0.map.drewN d) (S0.tab.heap rfl) hs1 hs2 hF
  have HX4 := Lib.hid X4
  have HBW := Lib.hid BW
  have HS0 := Lib.hid S0
  clear X4 BW S0 hF hq
  go_quiet (first | (go_at_call 23; exact Calls.quiet_of (HQ.out _)) | (go_at_call 27; exact Calls.quiet_of (HF.out _)))
  have S1 : Hid (SpaceAt (w0.drewN nq) s n u R) := HS0.out.fresh (below_drewN _ _ _)
  have x1 : Box3 (w0.drewN nq) p4 0 0 0 := HX4.out.fresh (below_drewN _ _ _)
  have B1 : Hid (Below w0.heap.size w0 (w0.drewN nq)) := below_drewN _ _ _
  generalize w0.drewN nq = w1 at S1 x1 B1 ⊢
  have X2 := Lib.hid x1
  obtain ⟨y1, y2, y3, yf, _⟩ := x1
  have yf0 := yf 0
  have yf1 := yf 1
  have yf2 := yf 2
  clear yf
  go_wp2_with fail
  have hb6 := X2.out.put 0 0 0
  have ho6 : Only (· = p4) w1 (((w1.setCell ⟨p4, 0, none⟩ (.int .i64 0)).setCell ⟨p4, 1, none⟩ (.int .i64 0)).setCell ⟨p4, 2, none⟩ (.int .i64 0)) := put3_only (Only.refl _ _) (.inl rfl)
  generalize ((w1.setCell ⟨p4, 0, none⟩ (.int .i64 0)).setCell ⟨p4, 1, none⟩ (.int .i64 0)).setCell ⟨p4, 2, none⟩ (.int .i64 0) = w3 at hb6 ho6 ⊢
  (try simp only [Exit.inBlock, Exit.then])
  have hp := HP.out
  have hlw := HLW.out
  have hord := S1.out.ord
  have hb0 := HBW.out.trans (B1.out.mono HBW.out.size)
  refine bodyPost_ret (res_box2 rfl rfl hb6) rfl ⟨rfl, S1.out.only ho6 (fun k hk e => by have := hk.2; omega) (by omega), (Only.of_below hb0 : Only s.F w w1).then_ ho6 (fun i hi e => by omega)⟩
end Go.Proofs.YtkjpemgoiobeeaaDoor
