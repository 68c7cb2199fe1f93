/- What the function Make of package second does where there is room. No condition but those that each statement names. -/
import Derived.Test.YtccpmaahnfgkeaaGreatDoorSMk
import Derived.IntWalk
namespace Go.Proofs.YtccpmaahnfgkeaaGreatDoor
set_option maxRecDepth 1000000
open Go.ChangeShapes Go.WideShapes Go.ChangeAt Go.RowKit
open Wd (Ob okO encO refsO ObjAt In64 I64)

theorem findE_snoc {L : List Ent} (e : Ent) (i : Int) (h : ∀ x ∈ L, (x.id : Int) ≠ e.id) : findE (L ++ [e]) i = if i = e.id then some e else findE L i := by
  unfold findE
  rw [List.find?_append]
  by_cases hi : i = e.id
  · subst hi
    have : L.find? (fun x => decide ((x.id : Int) = e.id)) = none := List.find?_eq_none.2 fun x hx => by simpa using h x hx
    rw [this]
    simp
  · rw [if_neg hi]
    have : ([e].find? fun x => decide ((x.id : Int) = i)) = none := by
      rw [List.find?_eq_none]
      intro x hx
      rw [List.mem_singleton.1 hx]
      simpa using fun e => hi e.symm
    rw [this, Option.or_none]
theorem plOf_snoc {L : List Ent} (e : Ent) (i : Int) (h : ∀ x ∈ L, (x.id : Int) ≠ e.id) : plOf (L ++ [e]) i = putP (plOf L) e.id (ext (erow e)) i := by
  unfold plOf putP
  rw [findE_snoc e i h]
  by_cases hi : i = e.id
  · simp [hi]
  · simp [hi]
theorem good_snoc {m : Nat} {L : List Ent} (h : GoodE m L) (o : Ob) (a : Nat) (ho : okO o = true) : GoodE (m + 1) (L ++ [⟨m + 1, o, a⟩]) := by
  refine ⟨List.pairwise_append.2 ⟨h.rise, by simp, fun x hx y hy => ?_⟩, fun e he => ?_, fun e he => ?_⟩
  · rw [List.mem_singleton.1 hy]; have := h.rng x hx; show x.id < m + 1; omega
  · rcases List.mem_append.1 he with he | he
    · have := h.rng e he; omega
    · rw [List.mem_singleton.1 he]; show 1 ≤ m + 1 ∧ m + 1 ≤ m + 1; omega
  · rcases List.mem_append.1 he with he | he
    · exact h.ok e he
    · rw [List.mem_singleton.1 he]; exact ho
theorem W64.of {i : Int} (h1 : -9223372036854775808 ≤ i) (h2 : i ≤ 9223372036854775807) : W64 i := wf_of h1 h2

theorem q_step {w : World} {q : Nat} {x y z : Value} (h0 : w.cell? ⟨q, 0, none⟩ = some x) (h1 : w.cell? ⟨q, 1, none⟩ = some y) (h2 : w.cell? ⟨q, 2, none⟩ = some z) (hf : w.frozen? ⟨q, 0, none⟩ = false) (hq : q < w.heap.size) (v : Value) (o : Obj) :
    ((w.setCell ⟨q, 0, none⟩ v).alloc o).cell? ⟨q, 0, none⟩ = some v ∧ ((w.setCell ⟨q, 0, none⟩ v).alloc o).cell? ⟨q, 1, none⟩ = some y ∧ ((w.setCell ⟨q, 0, none⟩ v).alloc o).cell? ⟨q, 2, none⟩ = some z ∧
    ((w.setCell ⟨q, 0, none⟩ v).alloc o).frozen? ⟨q, 0, none⟩ = false ∧ Only (· = q) w ((w.setCell ⟨q, 0, none⟩ v).alloc o) := by
  have hb : Below (w.setCell ⟨q, 0, none⟩ v).heap.size (w.setCell ⟨q, 0, none⟩ v) ((w.setCell ⟨q, 0, none⟩ v).alloc o) := (Below.refl _ _).alloc (Nat.le_refl _) _
  have hs : q < (w.setCell ⟨q, 0, none⟩ v).heap.size := by rw [World.size_setCell]; exact hq
  refine ⟨?_, ?_, ?_, ?_, ((Only.refl (· = q) w).setCell ⟨q, 0, none⟩ (.inl rfl) v).alloc o⟩
  · rw [hb.cell (p := ⟨q, 0, none⟩) hs]; exact World.cell?_setCell_same _ _ _ h0
  · rw [hb.cell (p := ⟨q, 1, none⟩) hs, World.cell?_setCell_other _ _ _ _ (by simp)]; exact h1
  · rw [hb.cell (p := ⟨q, 2, none⟩) hs, World.cell?_setCell_other _ _ _ _ (by simp)]; exact h2
  · rw [hb.frozen (p := ⟨q, 0, none⟩) hs, World.frozen?_setCell]; exact hf

set_option maxHeartbeats 2000000 in
theorem make_yes (c : Sc) (n u m : Nat) (L : List Ent) (v : Value) (o : Ob) (a : Nat) (w : World) (h : SecAt w c n u m L) (ho : ObjAt w v o) (hok : okO o = true) (hm : m < 1048576) (hu : u ≤ 100000000000000) (hF : FirstIs (tk (rowsE L)) n (szO o) a true) :
    Calls Tryz.prog 7 #[.pointer (some ⟨c.q, 0, none⟩), v] w (MakePost c n (u + 1) (m + 1) (L ++ [⟨m + 1, o, a⟩]) ((m : Int) + 1) 0 w) := by
  have HS := Lib.hid h
  have HO := Lib.hid ho
  have HB : Hid (Wd.ByL o.b) := by
    obtain ⟨_, _, _, _, hb, _⟩ := ho
    exact hb.2.1
  have HOK := Lib.hid hok
  have hle := (Wd.enc_le hok).2
  obtain ⟨wv, bv, rfl, _⟩ := ho
  have HC := Lib.hid (Wd.encode_yes _ o _ (HO.out.kept (box35 w (.int .i64 o.c) (.int .i64 o.k) wv bv)) hok)
  have hm' : decide ((1048576 : Int) ≤ (m : Int)) = false := decide_eq_false (by omega)
  have HF := Lib.hid hF
  have HM := Lib.hid hm
  clear h hok hF hm
  go_enter Tryz.func7, Tryz.ntmps7
  go_wp2_with fail
  refine HC.out.mono ?_
  rintro e w1 ⟨v1, rfl, hown, hb⟩
  have B1 : Hid (Below w.heap.size w w1) := (box35 w _ _ _ _).trans (hb.mono (by simp))
  have S1 := Lib.hid (HS.out.fresh B1.out)
  have c0 := S1.out.c0
  have c2 := S1.out.c2
  have HP : Hid (Calls Tryz.prog 27 #[.pointer (some ⟨c.s.sp, 0, none⟩), v1] w1 (PutPost c.s n u (rowsE L) a (encO o) w1)) := put_yes (N := ((w.alloc (.cells #[.int .i64 o.c, .int .i64 o.k, wv, bv] 35)).heap.size ≤ ·)) c.s n u (rowsE L) a v1 (encO o) w1 S1.out.sp (Vals.of_own (by rw [List.length_map]; exact hown)) (fun b hb hf => by
    have h1 := HS.out.ord
    have h2 := HS.out.lt
    have h3 := hf.2
    rw [World.size_alloc] at hb
    omega) (enc_bytes HB.out) hu (by omega) HF.out
  generalize hz : (encO o).length = z at *
  clear hb hown
  go_wp2_with fail
  refine HP.out.mono ?_
  rintro e w2 ⟨rfl, s2, o2⟩
  rw [hz]
  have O2 := Lib.hid o2
  have SP2 := Lib.hid s2
  have d0 := (o2.cell (p := ⟨c.q, 0, none⟩) S1.out.lt (s_not S1.out).1).trans c0
  have d1 := (o2.cell (p := ⟨c.q, 1, none⟩) S1.out.lt (s_not S1.out).1).trans S1.out.c1
  have d2 := (o2.cell (p := ⟨c.q, 2, none⟩) S1.out.lt (s_not S1.out).1).trans c2
  have df := (o2.frozen (p := ⟨c.q, 0, none⟩) S1.out.lt (s_not S1.out).1).trans S1.out.fz
  have P2 := Lib.hid (S1.out.pl.only o2 (s_not S1.out).2)
  have hq2 : c.q < w2.heap.size := Nat.lt_of_lt_of_le S1.out.lt o2.size
  have hp2 : c.pm < w2.heap.size := P2.out.lt
  have hpq := HS.out.ord
  have hm2 : wrap64 ((m : Int) + 1) = (m : Int) + 1 := IntWalk.wrap64_in _ (by have := HM.out; omega)
  clear s2 o2 c0 c2
  have BX : Hid (∀ o, Below w2.heap.size w2 (w2.alloc o)) := fun o => (Below.refl _ _).alloc (Nat.le_refl _) _
  go_wp2_with fail
  obtain ⟨g0, g1, g2, gf, E3⟩ := q_step d0 d1 d2 df hq2 (.int .i64 ((m : Int) + 1)) (.cells #[.int .i64 a, .int .i64 (secs z), .int .i64 z] 47)
  have x3 := box3_new (w2.setCell ⟨c.q, 0, none⟩ (.int .i64 ((m : Int) + 1))) a (secs z) z 47
  rw [World.size_setCell] at x3
  clear d0 d1 d2 df BX
  generalize (w2.setCell ⟨c.q, 0, none⟩ (.int .i64 ((m : Int) + 1))).alloc (.cells #[.int .i64 a, .int .i64 (secs z), .int .i64 z] 47) = w3 at *
  have E3 : Hid (Only (· = c.q) w2 w3.drew) := E3.drewN 1
  have P3 : PlAt w3.drew c.pm u (plOf L) := P2.out.only E3.out (by omega)
  have hwm : W64 ((m : Int) + 1) := W64.of (by omega) (by have := HM.out; omega)
  obtain ⟨w4, hst, p4, o4⟩ := P3.store ((m : Int) + 1) hwm ⟨a, secs z, z⟩ (by omega)
  have hst : (Instr.mapUpdate 67 (.map (some c.pm)) (.int .i64 ((m : Int) + 1)) (.agg #[.int .i64 a, .int .i64 (secs z), .int .i64 z])).run Tryz.prog w3.drew = .ok () w4 := hst
  have P4 := Lib.hid p4
  have hw3 : w3.drew.heap.size = w3.heap.size := rfl
  have hqq : c.q < w3.heap.size := Nat.lt_of_lt_of_le hq2 (by have := E3.out.size; omega)
  have O4 := Lib.hid o4
  have k0 : w4.cell? ⟨c.q, 0, none⟩ = some (.int .i64 ((m : Int) + 1)) := (o4.cell (p := ⟨c.q, 0, none⟩) hqq (by show ¬ c.q = c.pm; omega)).trans g0
  have K1 : Hid (w4.cell? ⟨c.q, 1, none⟩ = some (.map (some c.pm))) := (o4.cell (p := ⟨c.q, 1, none⟩) hqq (by show ¬ c.q = c.pm; omega)).trans g1
  have K2 : Hid (w4.cell? ⟨c.q, 2, none⟩ = some (.pointer (some ⟨c.s.sp, 0, none⟩))) := (o4.cell (p := ⟨c.q, 2, none⟩) hqq (by show ¬ c.q = c.pm; omega)).trans g2
  have KF : Hid (w4.frozen? ⟨c.q, 0, none⟩ = false) := (o4.frozen (p := ⟨c.q, 0, none⟩) hqq (by show ¬ c.q = c.pm; omega)).trans gf
  have K0 := Lib.hid k0
  obtain ⟨y1, y2, y3, _, _⟩ := x3
  clear P3 p4 o4 hwm gf g2 hw3
  go_still_tail 9, (by kernel_rfl)
  change wpList _ _ _ _ _ w3.drew
  go_wp2_with fail
  go_ret2
  have hrow : erow ⟨m + 1, o, a⟩ = (a, encO o) := rfl
  have hR : rowsE (L ++ [⟨m + 1, o, a⟩]) = rowsE L ++ [(a, encO o)] := by simp [rowsE, hrow]
  have o1 := HS.out.sp.ord
  have o2 := HS.out.ord
  have l2 := HS.out.lt
  have E4 : Only (fun k => k = c.q ∨ k = c.pm) w2 w4 := (E3.out.mono (fun i _ h => .inl h)).then_ O4.out (fun i _ h => .inr h)
  have hz' : secs z = len (a, encO o) := by show _ = secs (encO o).length; rw [hz]
  refine ⟨rfl, ⟨K0.out, K1.out, K2.out, KF.out, ?_, ?_, good_snoc HS.out.good o a HOK.out, HS.out.ord, Nat.lt_of_lt_of_le hqq (by have := O4.out.size; simpa using this), by have := HM.out; omega⟩, ?_⟩
  · refine P4.out.congr fun i hi => ?_
    rw [plOf_snoc ⟨m + 1, o, a⟩ i (fun x hx e => by have := HS.out.good.rng x hx; have e : (x.id : Int) = ((m + 1 : Nat) : Int) := e; omega)]
    show putP _ ((m : Int) + 1) _ i = putP _ (((m + 1 : Nat) : Int)) (ext (a, encO o)) i
    have e1 : ((m + 1 : Nat) : Int) = (m : Int) + 1 := by omega
    have e2 : ext (a, encO o) = ⟨a, secs z, z⟩ := by simp [ext, ← hz', hz]
    rw [e1, e2]
  · rw [hR]
    exact SP2.out.only E4 (fun k hk h => by have := hk.2; rcases h with h | h <;> omega) (fun h => by omega)
  · exact (((Only.of_below B1.out).then_ O2.out (fun i _ hi => c.inner HS.out i hi)) : Only c.F w w2).then_ E4 (fun i hi h => by
      rcases h with h | h
      · exact ⟨by omega, by omega⟩
      · exact ⟨by omega, by omega⟩)
end Go.Proofs.YtccpmaahnfgkeaaGreatDoor
