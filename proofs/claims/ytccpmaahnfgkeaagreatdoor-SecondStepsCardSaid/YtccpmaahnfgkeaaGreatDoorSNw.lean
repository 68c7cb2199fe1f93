/- The walk of the function Near of package second. No condition but those that each statement names. -/
import Derived.Test.YtccpmaahnfgkeaaGreatDoorSNr
import Derived.Deep.LoopGhost
namespace Go.Proofs.YtccpmaahnfgkeaaGreatDoor
set_option maxRecDepth 1000000
open Go.ChangeShapes Go.WideShapes Go.ChangeAt Go.RowKit
open Wd (Ob okO encO refsO ObjAt In64 I64)

def NearPost (c : Sc) (n u m : Nat) (L : List Ent) (roots : List Int) (w : World) (e : Ending) (w' : World) : Prop :=
  ∃ v ys, e = .returned v ∧ NearIs L roots ys ∧ w'.ownsRow w.heap.size 3 1 v ys.length (ys.map (Value.int .i64)) ∧ SecAt w' c n u m L ∧ Only c.F w w'

set_option maxHeartbeats 8000000 in
theorem near_any (c : Sc) (n u m : Nat) (L : List Ent) (v : Value) (roots : List Int) (w : World) (h : SecAt w c n u m L) (hv : Ints (fun b => ¬ c.F b) w v roots) (h64 : ∀ y ∈ roots, W64 y) (hlr : roots.length ≤ 1000000) (hu : u ≤ 90000000000000) :
    Calls Tryz.prog 23 #[.pointer (some ⟨c.q, 0, none⟩), v] w (NearPost c n (u + 20000) m L roots w) := by
  obtain ⟨i0, hi, hz0, hz1, hz2⟩ := info_parts Tryz.info3
  have hmm := @run_makeMap Tryz.prog
  have HG := Lib.hid h.good
  have HLT := Lib.hid h.lt
  have HLL := Lib.hid h.len
  have N0 : Hid (NrAt c n (u + 0) m L w.heap.size [] roots (.slice none 0 0) v w (w.alloc (.map #[] 0))) := by
    have b : Below w.heap.size w (w.alloc (.map #[] 0)) := (Below.refl _ _).alloc (Nat.le_refl _) _
    refine ⟨World.ownsRow_nil _ _ _ _, (set_made w).congr fun y _ => by simp, Nat.le_refl _, ?_, h64, h.fresh b, Only.of_below b⟩
    exact Vals.kind (Vals.only (Vals.kind hv (M := fun b => ¬ c.F b ∧ b < w.heap.size) (fun b hb h => ⟨h, hb⟩)) (F := fun _ => False) (Only.of_below b) (fun _ _ h => h)) (fun b _ hb => ⟨hb.1, by have := hb.2; omega, by simp [Value.ownBlock]⟩)
  obtain ⟨g, hg⟩ : ∃ g, w.heap.size = g := ⟨_, rfl⟩
  have HGG : Hid (w.heap.size = g) := hg
  have N0 : Hid (NrAt c n (u + 0) m L g [] roots (.slice none 0 0) v w (w.alloc (.map #[] 0))) := hg ▸ N0.out
  obtain ⟨a, cp, rfl, hc, _⟩ := hv
  rw [List.length_map] at *
  clear h h64 hc
  go_enter Tryz.func23, Tryz.ntmps23
  go_wp2
  go_step3
  go_wp2
  go_step3
  go_wp2
  clear hg
  generalize w.alloc (.map #[] 0) = w0 at N0 ⊢
  have hLn : (L.length : Int) ≤ 20000 := by have := HLL.out; omega
  go_loopw [5, 7, 8] (fun s5 s7 s8 wr => ∃ (xs ns : List Int) (i : Nat), i ≤ L.length ∧ ns.length ≤ 1000000 ∧ s8 = .int .i64 i ∧ NrOk L roots xs i ∧ ns = genE L roots xs i ∧ NrAt c n (u + i) m L g xs ns s5 s7 w wr) (fun _ _ s8 _ => L.length + 1 - (RowKit.intOf s8).toNat)
  case atStart => exact ⟨[], roots, 0, Nat.zero_le _, hlr, rfl, nrok_start L roots, rfl, N0.out⟩
  case round =>
    obtain ⟨xs, ns, i, hiL, hnl, rfl, hok, hns, hat⟩ := hrel
    have N1 := Lib.hid hat
    have K1 := Lib.hid hok
    have HNS := Lib.hid hns
    obtain ⟨a7, c7, rfl, hc7, _⟩ := id hat.row
    obtain ⟨a5, c5, rfl, _⟩ := Wd.own_room hat.own
    rw [List.length_map] at *
    clear hat hok hns hc7
    go_wp2_with fail
    go_loopw [5, 23] (fun s5 s23 wx => ∃ (xs : List Int) (j : Nat), s23 = .int .i64 j ∧ j ≤ ns.length ∧ NrOk L roots xs i ∧ ns = genE L roots xs i ∧ (∀ y ∈ ns.take j, hasE L y = true → y ∈ xs) ∧ NrAt c n (u + i) m L g xs ns s5 (.slice a7 ns.length c7) w wx) (fun _ s23 _ => ns.length - (RowKit.intOf s23).toNat)
    case atStart => exact ⟨xs, 0, rfl, Nat.zero_le _, K1.out, HNS.out, fun y hy => by simp at hy, N1.out⟩
    case round =>
      clear N1 K1 HNS
      obtain ⟨xs, j, rfl, hj, hok, hns, hcl, hat⟩ := hrel
      have N2 := Lib.hid hat
      have K2 := Lib.hid hok
      have HNS := Lib.hid hns
      have HCL := Lib.hid hcl
      obtain ⟨a5, c5, rfl, _⟩ := Wd.own_room hat.own
      have hxl : (xs.length : Int) ≤ 20000 := by have := hok.len; omega
      clear hok hns hcl
      by_cases hlt : j < ns.length
      · obtain ⟨b, off, c', he, _, _, _, h1⟩ := Vals.at_ (k := j) hat.row (by rw [List.length_map]; exact hlt)
        injection he with e1 e2 e3
        subst e1 e3
        rw [List.getElem_map] at h1
        clear e2
        have hwf := hat.w64 _ (List.getElem_mem hlt)
        have HGY : Hid (ns[j] ∈ ns) := List.getElem_mem hlt
        have HTK : Hid (∀ y ∈ ns.take (j + 1), y ∈ ns.take j ∨ y = ns[j]) := fun y hy => by
          rw [List.take_succ_eq_append_getElem hlt] at hy
          exact (List.mem_append.1 hy).imp id (fun h => List.mem_singleton.1 h)
        have hlk := hat.set.look ns[j] hwf
        have BW : Below wr.heap.size wr (wr.alloc (.cells #[] 95)) := (Below.refl _ _).alloc (Nat.le_refl _) _
        have N3 := Lib.hid (hat.fresh BW)
        have HWF := Lib.hid hwf
        generalize ns[j] = y at h1 hwf HGY HTK hlk HWF
        obtain ⟨tw, htw⟩ : ∃ tw, decide (y ∈ xs) = tw := ⟨_, rfl⟩
        rw [htw] at hlk
        have HTW := Lib.hid htw
        clear hat BW htw hwf
        cases tw with
        | true =>
          go_wp2_with fail
          go_roundw
          case rel => exact ⟨xs, j + 1, by go_num, by omega, K2.out, HNS.out, fun z hz hh => (HTK.out z hz).elim (fun h => HCL.out z h hh) (fun h => by rw [h]; simpa using HTW.out), N3.out⟩
          case measure => simp [RowKit.intOf]; omega
        | false =>
          go_wp2_with fail
          clear hlk h1
          generalize wr.alloc (.cells #[] 95) = w2 at *
          refine (has_any c n (u + i) m L y HWF.out w2 N3.out.sec).mono ?_
          rintro e w3 ⟨rfl, _, b3⟩
          have N4 := Lib.hid (N3.out.fresh b3)
          obtain ⟨hs, hhs⟩ : ∃ hs, hasE L y = hs := ⟨_, rfl⟩
          rw [hhs]
          have HHS := Lib.hid hhs
          clear b3 hhs N3
          cases hs with
          | false =>
            go_wp2_with fail
            go_roundw
            case rel => exact ⟨xs, j + 1, by go_num, by omega, K2.out, HNS.out, fun z hz hh => (HTK.out z hz).elim (fun h => HCL.out z h hh) (fun h => by rw [h, HHS.out] at hh; cases hh), N4.out⟩
            case measure => simp [RowKit.intOf]; omega
          | true =>
            have HNY : Hid (¬ y ∈ xs) := Lib.hid (by have := HTW.out; simpa using this)
            obtain ⟨w4, hst, l4, o4⟩ := N4.out.set.store y HWF.out (by omega)
            have L4 := Lib.hid l4
            have M4 := Lib.hid (N4.out.marked HLT.out o4)
            have K5 : Hid (NrOk L roots (xs ++ [y]) i) := K2.out.snoc HNY.out (gen_reach K2.out K2.out.le (by rw [← HNS.out]; exact HGY.out) HHS.out)
            have GG5 : Hid (ns = genE L roots (xs ++ [y]) i) := by
              show ns = _
              rw [gen_snoc _ _ _ _ _ K2.out.le]; exact HNS.out
            clear l4 o4
            go_wp2_with (at_builtin; refine wpList_append_own_at _ rfl _ _ 23 rfl w.heap.size 3 i0 (.int .i64 0) 1 8 Tryz.underlying23 hi hz0 hz1 hz2 rfl (by decide) _ _ _ rfl (M4.out.1.alloc _) ⟨w4.heap.size, 0, none⟩ 1 1 [.int .i64 y] rfl rfl ?c1 ?c2 ?c3 ?c4 ?c5 ?_)
            case c1 =>
              intro j u hj
              match j, hj with
              | 0, hj => simp at hj; subst hj; simp [Addr.add]
            case c2 => intro u hu; simp at hu; subst hu; rfl
            case c3 => unfold maxLen; omega
            case c4 => omega
            case c5 => have := M4.out.2.2.2.size; simp; omega
            intro v5 w5 hown5 hgr5 _ hat5
            have BA : Below w4.heap.size w4 (w4.alloc (.cells #[.int .i64 y] 3)) := (Below.refl _ _).alloc (Nat.le_refl _) _
            have N5 : Hid (NrAt c n (u + i) m L g (xs ++ [y]) ns v5 (.slice (some ⟨b, off, none⟩) ns.length c7) w w5) :=
              NrAt.grow HLT.out N4.out.gge (own_only2 M4.out.1 (F := fun _ => False) (Only.of_below BA) (fun _ _ h => h)) (L4.out.fresh BA) (M4.out.2.1.only (F := fun _ => False) (Only.of_below BA) (fun _ _ h => h)) N4.out.w64 (M4.out.2.2.1.fresh BA) (M4.out.2.2.2.then_ (Only.of_below BA) (fun _ _ h => h)) hown5 hgr5 (by rw [World.size_alloc]; exact hat5)
            obtain ⟨a6, c6, rfl, _⟩ := Wd.own_room hown5
            have hml := fun ty => N5.out.sec.maplen ty
            have d1 := N5.out.sec.c1
            have LN5 : Hid ((xs ++ [y]).length = xs.length + 1) := List.length_append
            clear hown5 hgr5 hat5 BA hst L4 M4 N4 K2
            by_cases hfull : xs.length + 1 = L.length
            · have hbe : ((xs.length : Int) + 1 == (L.length : Int)) = true := by simp; omega
              have HFU := Lib.hid hfull
              clear hfull
              go_wp2_with fail
              refine (sort_own _ (xs ++ [y]) w.heap.size _ N5.out.own (by have := K5.out.len; have := HLL.out; omega)).mono ?_
              rintro e w9 ⟨rfl, own9, o9⟩
              have OWN9 := Lib.hid own9
              have S9 : Hid (SecAt w9 c n (u + 20000) m L) := (N5.out.sec.only o9 (fun k hk e => by have := hk.2; have := HLT.out; omega) (by have := HLT.out; omega)).mono (by omega)
              have O9 : Hid (Only c.F w w9) := N5.out.only.then_ o9 (fun k hk e => by omega)
              clear own9 o9
              go_wp2_with fail
              (try rw [Exit.noGoto_ret])
              go_ret
              exact ⟨_, _, rfl, near_sorted K5.out.nodup (K5.out.full (by rw [LN5.out]; exact HFU.out)), by rw [List.length_mergeSort]; exact OWN9.out, S9.out, O9.out⟩
            · have hbe : ((xs.length : Int) + 1 == (L.length : Int)) = false := by simp; omega
              clear hfull
              go_wp2_with fail
              go_roundw
              case rel => exact ⟨xs ++ [y], j + 1, by go_num, by omega, K5.out, GG5.out, fun z hz hh => (HTK.out z hz).elim (fun h => List.mem_append.2 (.inl (HCL.out z h hh))) (fun h => List.mem_append.2 (.inr (List.mem_singleton.2 h))), N5.out⟩
              case measure => simp [RowKit.intOf]; omega
      · have HALL : Hid (∀ y ∈ genE L roots xs i, hasE L y = true → y ∈ xs) := fun y hy hh => by
          rw [← HNS.out] at hy
          exact HCL.out y (by rw [List.take_of_length_le (by omega)]; exact hy) hh
        clear hat
        by_cases hie : i = xs.length
        · subst hie
          go_wp2_with fail
          refine (sort_own _ xs w.heap.size _ N2.out.own (by have := K2.out.len; have := HLL.out; omega)).mono ?_
          rintro e w9 ⟨rfl, own9, o9⟩
          have OWN9 := Lib.hid own9
          have S9 : Hid (SecAt w9 c n (u + 20000) m L) := (N2.out.sec.only o9 (fun k hk e => by have := hk.2; have := HLT.out; omega) (by have := HLT.out; omega)).mono (by omega)
          have O9 : Hid (Only c.F w w9) := N2.out.only.then_ o9 (fun k hk e => by omega)
          clear own9 o9
          go_wp2_with fail
          (try rw [Exit.noGoto_ret])
          go_ret
          exact ⟨_, _, rfl, near_sorted K2.out.nodup (K2.out.done HG.out HALL.out), by rw [List.length_mergeSort]; exact OWN9.out, S9.out, O9.out⟩
        · have hbe : ((i : Int) == (xs.length : Int)) = false := by simp; omega
          have hil : i < xs.length := by have := K2.out.le; omega
          have K3 := Lib.hid (K2.out.next hil HALL.out)
          have hrd := Vals.at_ (k := i) (Vals.of_own (by rw [List.length_map]; exact N2.out.own)) (by rw [List.length_map]; exact hil)
          obtain ⟨b5, o5, c5', he5, _, _, _, hx5⟩ := hrd
          injection he5 with e1 e2 e3
          subst e1 e3
          have hgd : xs[i]'hil = xs.getD i 0 := by simp [List.getD, hil]
          rw [List.getElem_map, hgd] at hx5
          clear e2
          obtain ⟨e, hfe⟩ := Option.isSome_iff_exists.1 (reach_has (K2.out.reach (xs.getD i 0) (by rw [← hgd]; exact List.getElem_mem hil)))
          obtain ⟨hel, hid⟩ := findE_some hfe
          have HGN : Hid (refsO e.o = genE L roots xs (i + 1)) := by
            show refsO e.o = _
            rw [gen_succ, refsAt, hfe]; rfl
          rw [← hid] at hx5
          have HFE := Lib.hid (fetch_yes c n (u + i) m L e wr N2.out.sec hel (by omega))
          have HOK := Lib.hid (HG.out.ok e hel)
          have HIX := Lib.hid hil
          have hilI : (i : Int) < (xs.length : Int) := by omega
          clear hie hfe hel hid hgd hil
          go_wp2_with fail
          refine HFE.out.mono ?_
          rintro e3 w3 ⟨v3, rfl, hv3, s3, o3⟩
          obtain ⟨f1, f2, f3, f4, rfl⟩ := hv3.form
          have S3 := Lib.hid s3
          have O3 := Lib.hid o3
          have V3 := Lib.hid hv3
          clear s3 o3 hv3 hx5
          go_wp2_with fail
          have BX := box35 w3 (.int .i64 e.o.c) (.int .i64 e.o.k) (.slice f1 e.o.w.length f2) (.slice f3 e.o.b.length f4)
          have S4 := Lib.hid (S3.out.fresh BX)
          have O4 : Hid (Only c.F wr (w3.alloc (.cells #[.int .i64 e.o.c, .int .i64 e.o.k, .slice f1 e.o.w.length f2, .slice f3 e.o.b.length f4] 35))) := O3.out.then_ (Only.of_below BX) (fun _ _ h => h)
          have V4 := Lib.hid (V3.out.fresh BX)
          clear BX
          generalize w3.alloc (.cells #[.int .i64 e.o.c, .int .i64 e.o.k, .slice f1 e.o.w.length f2, .slice f3 e.o.b.length f4] 35) = w4 at *
          refine (Wd.refs_any _ e.o w4 V4.out.at_ (by
            obtain ⟨_, ⟨_, _, hl, _⟩ | ⟨_, hl, _⟩⟩ := (Wd.okO_iff e.o).1 HOK.out
            · omega
            · rw [hl]; simp)).mono ?_
          rintro e4 w5 ⟨v7, rfl, hr7, b7⟩
          have N6 := Lib.hid (N2.out.fetched HLT.out O4.out S4.out b7 hr7 (fun y hy => w64_of (Wd.refsL_i64 _ y hy)))
          clear hr7 b7
          have HRL : Hid ((refsO e.o).length ≤ 1000000) := by
            have h1 := Wd.refsL_len (e.o.c :: e.o.w)
            have h2 := (short_of HOK.out).1
            have h3 : (refsO e.o).length ≤ (e.o.c :: e.o.w).length := h1
            simp only [List.length_cons] at h3
            obtain ⟨_, ⟨_, _, hl, _⟩ | ⟨_, hl, _⟩⟩ := (Wd.okO_iff e.o).1 HOK.out
            · show (refsO e.o).length ≤ 1000000; omega
            · rw [hl] at h3; show (refsO e.o).length ≤ 1000000; simp at h3; omega
          go_wp2_with fail
          go_roundw
          case rel => exact ⟨xs, refsO e.o, i + 1, by have := K2.out.len; have := HIX.out; omega, HRL.out, by go_num, K3.out, HGN.out, by rw [show u + (i + 1) = u + i + 1 by omega]; exact N6.out⟩
          case measure => simp [RowKit.intOf]; omega
end Go.Proofs.YtccpmaahnfgkeaaGreatDoor
