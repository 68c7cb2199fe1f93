/- The walk of the function Drop of package second. No condition but those that each statement names. -/
import Derived.Test.YtccpmaahnfgkeaaGreatDoorSDr
namespace Go.Proofs.YtccpmaahnfgkeaaGreatDoor
set_option maxRecDepth 1000000
open Go.ChangeShapes Go.WideShapes Go.ChangeAt Go.RowKit
open Wd (Ob okO encO refsO ObjAt In64 I64)

def DropPost (c : Sc) (n u m : Nat) (L : List Ent) (t : Int) (w : World) (e : Ending) (w' : World) : Prop := e = .returned (.int .i64 t) ∧ SecAt w' c n u m L ∧ Only c.F w w'

theorem drop_bad {N : Nat → Prop} (c : Sc) (n u m : Nat) (L : List Ent) (v : Value) (xs : List Int) (w : World) (h : SecAt w c n u m L) (hv : Ints N w v xs) (hw : ∀ x ∈ xs, W64 x) (hl : xs.length ≤ 100000) (hok : ¬ okIds L xs) :
    Calls Tryz.prog 14 #[.pointer (some ⟨c.q, 0, none⟩), v] w (DropPost c n u m L 4 w) := by
  have HC := Lib.hid (scheck_any c n u m L v xs 4 w h hv hw hl (fun h => absurd h hok) (fun _ => rfl))
  clear h hv hw hok
  go_enter Tryz.func14, Tryz.ntmps14
  go_wp2_with (go_at_call 32; refine HC.out.mono ?_; rintro e w1 ⟨rfl, s1, b1⟩)
  go_ret
  exact ⟨rfl, s1, Only.of_below b1⟩

/-- Behind k rounds of the second loop. -/
def DpInv (c : Sc) (n u m : Nat) (L L' : List Ent) (xs : List Int) (k : Nat) (w wr : World) : Prop :=
  wr.cell? ⟨c.q, 0, none⟩ = some (.int .i64 m) ∧ wr.cell? ⟨c.q, 1, none⟩ = some (.map (some c.pm)) ∧ wr.cell? ⟨c.q, 2, none⟩ = some (.pointer (some ⟨c.s.sp, 0, none⟩)) ∧ wr.frozen? ⟨c.q, 0, none⟩ = false ∧
  PlAt wr c.pm u (fun i => if i ∈ xs.take k then none else plOf L i) ∧ SpaceAt wr c.s n u (rowsE L') ∧ Only c.F w wr

set_option maxHeartbeats 4000000 in
theorem drop_all {N : Nat → Prop} (c : Sc) (n u m : Nat) (L : List Ent) (v : Value) (xs : List Int) (w : World) (h : SecAt w c n u m L) (hv : Ints N w v xs) (hN : ∀ b, N b → ¬ c.F b) (hw : ∀ x ∈ xs, W64 x) (hl : xs.length ≤ 100000) (hok : okIds L xs) :
    Calls Tryz.prog 14 #[.pointer (some ⟨c.q, 0, none⟩), v] w (DropPost c n u m (dropE L xs) 0 w) := by
  have HC := Lib.hid (scheck_any c n u m L v xs 0 w h hv hw hl (fun _ => rfl) (fun h => absurd hok h))
  have HS := Lib.hid h
  have HV := Lib.hid hv
  have HN := Lib.hid hN
  have HW := Lib.hid hw
  have HOK := Lib.hid hok
  have HLX : Hid ((extsOf L xs).length = xs.length) := List.length_map _
  obtain ⟨a, cp, rfl, hc, _⟩ := hv
  rw [List.length_map] at *
  clear h hw hN hok
  go_enter Tryz.func14, Tryz.ntmps14
  go_wp2_with fail
  refine HC.out.mono ?_
  rintro e w1 ⟨rfl, s1, b1⟩
  have S1 := Lib.hid s1
  have B1 := Lib.hid b1
  have hmk := mk_exts w1 xs.length (by omega)
  have H0 := Lib.hid (holds3_new w1 xs.length)
  have S2 : Hid (SecAt (w1.alloc (.cells (madeCells z3 (xs.length * 3)) 47)) c n u m L) := s1.fresh ((Below.refl _ _).alloc (Nat.le_refl _) _)
  have B2 : Hid (Below w.heap.size w (w1.alloc (.cells (madeCells z3 (xs.length * 3)) 47))) := b1.alloc b1.size _
  obtain ⟨g, hg⟩ : ∃ g, w1.heap.size = g := ⟨_, rfl⟩
  have HGG : Hid (w.heap.size ≤ g) := by have := b1.size; show _ ≤ g; omega
  rw [hg] at H0 hmk
  clear s1 b1 HC S1 B1 hg
  go_wp2_with fail
  clear hmk
  generalize w1.alloc (.cells (madeCells z3 (xs.length * 3)) 47) = w2 at *
  go_loopw [23] (fun i wr => ∃ k : Nat, k ≤ xs.length ∧ i = .int .i64 k ∧ Holds3 wr g xs.length (fun j => if j < k then atX (plOf L) (xs.getD j 0) else Z3) ∧ Only (· = g) w2 wr) (fun i _ => xs.length - (RowKit.intOf i).toNat)
  case atStart => exact ⟨0, Nat.zero_le _, rfl, by simpa using H0.out, Only.refl _ _⟩
  case round =>
    obtain ⟨k, hk, rfl, hh, ho⟩ := hrel
    have hgw : g < w2.heap.size := H0.out.lt
    have HSr : Hid (SecAt wr c n u m L) := S2.out.only ho (fun j hj e => F_lt HS.out (by have := HGG.out; omega) hj) (by have := HGG.out; have := HS.out.lt; omega)
    by_cases hlt : k < xs.length
    · obtain ⟨b, off, c', he, _, _, _, h1⟩ := Vals.at_ (k := k) ((Vals.only (Vals.only (Vals.kind HV.out (M := fun b => b < w.heap.size) (fun b hb _ => hb)) (Only.of_below (F := fun _ => False) B2.out) (fun _ _ h => h)) ho (fun b hb e => by have := HGG.out; omega))) (by rw [List.length_map]; exact hlt)
      injection he with e1 e2 e3
      subst e1 e3
      rw [List.getElem_map] at h1
      clear e2
      have hwf := HW.out _ (List.getElem_mem hlt)
      have hgd : xs.getD k 0 = xs[k] := by simp [List.getD, hlt]
      have HGD := Lib.hid hgd
      generalize xs[k] = x at h1 hwf HGD
      have d1 := HSr.out.c1
      have hlk := HSr.out.pl.look1 x hwf
      have HX := Lib.hid (hh.put hlt (atX (plOf L) x).f (atX (plOf L) x).n (atX (plOf L) x).s)
      have y0 := hh.c0 k hlt
      have y1 := hh.c1 k hlt
      have y2 := hh.c2 k hlt
      have f0 := hh.fz (k * 3)
      have f1 := hh.fz (k * 3 + 1)
      have f2 := hh.fz (k * 3 + 2)
      have HO := Lib.hid ho
      generalize hax : atX (plOf L) x = ax at *
      obtain ⟨x1, x2, x3⟩ := ax
      dsimp only at HX
      replace hlk : (Instr.lookup 67 (.map (some c.pm)) (.int .i64 x) false).run Tryz.prog wr = .ok (.agg #[.int .i64 x1, .int .i64 x2, .int .i64 x3]) wr := hlk
      have HAX := Lib.hid hax
      clear hh ho hax hgd hwf hgw
      go_wp2_with fail
      go_roundw
      case rel =>
        refine ⟨k + 1, by omega, by go_num, HX.out.congr fun j hj => ?_, ?_⟩
        · by_cases e : j = k
          · subst e
            rw [if_pos rfl, if_pos (by omega), HGD.out, HAX.out]
          · rw [if_neg e]
            by_cases e2 : j < k
            · rw [if_pos e2, if_pos (by omega)]
            · rw [if_neg e2, if_neg (by omega)]
        · exact ((HO.out.setCell ⟨g, _, none⟩ (.inl rfl) _).setCell ⟨g, _, none⟩ (.inl rfl) _).setCell ⟨g, _, none⟩ (.inl rfl) _
      case measure => simp [RowKit.intOf]; omega
    · obtain rfl : k = xs.length := by omega
      have hs := HSr.out
      have hx : Exts (· = g) wr (.slice (some ⟨g, 0, none⟩) (extsOf L xs).length (extsOf L xs).length) (extsOf L xs) := Holds3.exts (E := fun j => if j < xs.length then atX (plOf L) (xs.getD j 0) else Z3) (by rw [HLX.out]; exact hh) (fun j hj => by
        rw [HLX.out] at hj
        simp only [extsOf, List.getElem_map]
        rw [if_pos hj]
        simp [List.getD, hj])
      rw [HLX.out] at hx
      have HF := Lib.hid (free_all (N := (· = g)) c.s n u (rowsE L) _ (extsOf L xs) wr hs.sp hx (fun b hb hf => by subst hb; exact F_lt HS.out HGG.out (c.inner HS.out _ hf)) (fun y hy => by
        obtain ⟨r, hr, rfl⟩ := isX_iff.1 ((exts_ok hs.sp.good hs.good HOK.out).1 y hy)
        exact ext_wf hs.sp.good hs.sp.small hr) (by rw [HLX.out]; exact hl) (exts_ok hs.sp.good hs.good HOK.out))
      have d2 := hs.c2
      have HO : Hid (Only c.F w wr) := (Only.of_below B2.out : Only c.F w w2).then_ ho (fun j hj e => by have := HGG.out; omega)
      have HR := Lib.hid (rem_rows hs.sp.good hs.good HOK.out)
      rw [HR.out] at HF
      clear hh ho hgw hs hx H0
      go_wp2_with fail
      refine HF.out.mono ?_
      rintro e w4 ⟨rfl, s4, o4⟩
      have I4 : Hid (DpInv c n u m L (dropE L xs) xs 0 w w4) := ⟨(o4.cell (p := ⟨c.q, 0, none⟩) HSr.out.lt (s_not HSr.out).1).trans HSr.out.c0, (o4.cell (p := ⟨c.q, 1, none⟩) HSr.out.lt (s_not HSr.out).1).trans HSr.out.c1,
        (o4.cell (p := ⟨c.q, 2, none⟩) HSr.out.lt (s_not HSr.out).1).trans HSr.out.c2, (o4.frozen (p := ⟨c.q, 0, none⟩) HSr.out.lt (s_not HSr.out).1).trans HSr.out.fz,
        (HSr.out.pl.only o4 (s_not HSr.out).2).congr (fun i _ => by simp), s4, HO.out.then_ o4 (fun k _ hk => c.inner HS.out k hk)⟩
      clear s4 o4 d2 HF
      go_wp2_with fail
      go_loopw [49] (fun i wr => ∃ k : Nat, k ≤ xs.length ∧ i = .int .i64 k ∧ DpInv c n u m L (dropE L xs) xs k w wr) (fun i _ => xs.length - (RowKit.intOf i).toNat)
      case atStart => exact ⟨0, Nat.zero_le _, rfl, I4.out⟩
      case round =>
        obtain ⟨k, hk, rfl, e0, e1', e2', ef, hp, hsp, ho⟩ := hrel
        by_cases hlt : k < xs.length
        · obtain ⟨b, off, c', he, _, hNb, _, h1⟩ := Vals.at_ (k := k) (Vals.only HV.out ho HN.out) (by rw [List.length_map]; exact hlt)
          injection he with e1 e2 e3
          subst e1 e3
          rw [List.getElem_map] at h1
          clear e2
          have hwf := HW.out _ (List.getElem_mem hlt)
          have HE : Hid (∀ j, W64 j → delP (fun i => if i ∈ xs.take k then none else plOf L i) xs[k] j = if j ∈ xs.take (k + 1) then none else plOf L j) := fun j _ => by
            unfold delP
            rw [List.take_succ_eq_append_getElem hlt]
            simp only [List.mem_append, List.mem_singleton]
            by_cases g1 : j = xs[k]
            · rw [if_pos g1, if_pos (.inr g1)]
            · rw [if_neg g1]
              by_cases h2 : j ∈ xs.take k
              · rw [if_pos h2, if_pos (.inl h2)]
              · rw [if_neg h2, if_neg (fun h => h.elim h2 g1)]
          generalize xs[k] = x at h1 hwf HE
          have HPD := Lib.hid (hp.drop x hwf)
          have E0 := Lib.hid e0
          have E1 := Lib.hid e1'
          have E2 := Lib.hid e2'
          have EF := Lib.hid ef
          have HSP := Lib.hid hsp
          have HO := Lib.hid ho
          have HQ : Hid (c.q < wr.heap.size) := Nat.lt_of_lt_of_le HS.out.lt ho.size
          clear e0 e2' ef hp hsp ho hwf hNb
          obtain ⟨w6, hrun, p6, o6⟩ := HPD.out 0
          have P6 := Lib.hid p6
          have O6 := Lib.hid o6
          clear p6 o6
          go_wp2_with fail
          have hord := HS.out.ord
          have hso := HS.out.sp.ord
          have hq := HQ.out
          have nq : ¬ c.q = c.pm := by omega
          go_roundw
          case rel =>
            exact ⟨k + 1, by omega, by go_num, (O6.out.cell (p := ⟨c.q, 0, none⟩) hq nq).trans E0.out, (O6.out.cell (p := ⟨c.q, 1, none⟩) hq nq).trans E1.out, (O6.out.cell (p := ⟨c.q, 2, none⟩) hq nq).trans E2.out, (O6.out.frozen (p := ⟨c.q, 0, none⟩) hq nq).trans EF.out,
              P6.out.congr HE.out, HSP.out.only O6.out (fun j hj e => by have := hj.2; omega) (by omega), HO.out.then_ O6.out (fun j _ e => ⟨by omega, by omega⟩)⟩
          case measure => simp [RowKit.intOf]; omega
        · have HE : Hid (∀ j, W64 j → (if j ∈ xs.take k then none else plOf L j) = plOf (dropE L xs) j) := fun j _ => by
            rw [List.take_of_length_le (by omega)]
            show _ = (findE (dropE L xs) j).map _
            rw [find_drop HS.out.good]
            by_cases h1 : j ∈ xs
            · rw [if_pos h1, if_pos h1]; rfl
            · rw [if_neg h1, if_neg h1]; rfl
          have R6 : Hid (SecAt wr c n u m (dropE L xs)) := ⟨e0, e1', e2', ef, hp.congr HE.out, hsp, good_drop HS.out.good xs, HS.out.ord, Nat.lt_of_lt_of_le HS.out.lt ho.size, HS.out.few⟩
          have HO := Lib.hid ho
          clear e0 e1' e2' ef hp hsp ho
          go_wp2_with fail
          go_ret
          exact ⟨rfl, R6.out, HO.out⟩
end Go.Proofs.YtccpmaahnfgkeaaGreatDoor
