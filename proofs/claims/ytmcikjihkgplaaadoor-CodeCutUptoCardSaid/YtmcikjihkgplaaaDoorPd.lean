/- The package's All: what it answers. -/
import Derived.Test.YtmcikjihkgplaaaDoorPc
import Derived.Test.YtmcikjihkgplaaaDoorKAll
namespace Go.Proofs.YtmcikjihkgplaaaDoor
set_option maxRecDepth 1000000
open Go.ChangeShapes Go.WideShapes Go.ChangeAt Go.RowKit

set_option maxHeartbeats 4000000 in
theorem all_code {N : Nat → Prop} (v : Value) (bs : List Int) (w : World) (hT : Tabs w) (hv : Bts N w v bs) (hb : Bytes bs) (hl : bs.length ≤ 1000000000000) :
    Calls Tryd.prog 14 #[v] w (AllPost bs w) := by
  obtain ⟨i0, hi, hz0, hz1, hz2⟩ := info_parts Tryd.info25
  obtain ⟨ln, hln⟩ : ∃ n, bs.length = n := ⟨_, rfl⟩
  have HAt : Hid (∀ w' (a : Nat), Below w.heap.size w w' → a < ln → Calls Tryd.prog 12 #[v, .int .i64 a] w' (AtPost bs a w')) := Lib.hid fun w' a hbw ha =>
    at_code v bs a w' (hT.next hbw) (Bts.only (hv.kind (M := fun b => b < w.heap.size) fun b h _ => h) ⟨hbw.os, hbw.tape, hbw.output, hbw.size, fun k hk _ => hbw.block k hk⟩ (F := fun _ => False) fun _ _ h => h) hb (by omega) (by omega)
  have HO : Hid (allF bs ln 0 [] = allO bs) := Lib.hid (by rw [← hln]; rfl)
  have HST : Hid (∀ (a : Nat), a < ln → atE bs a = 0 → (atO bs a).l.toNat ≤ ln - a ∧ 1 ≤ (atO bs a).l ∧ (atO bs a).l ≤ 3) := Lib.hid fun a h he => (atO_len (by omega) he).2 |>.imp (fun h => by omega) id
  have HLN := Lib.hid hln
  obtain ⟨va, c, rfl, _⟩ := Bts.form hv
  rw [hln] at hl HAt ⊢
  clear hv hb hln hT
  unfold AllPost
  go_enter Tryd.func14, Tryd.ntmps14
  go_wp2_with fail
  go_loopg [4, 5] ln (fun g s4 s5 wx => ∃ (a : Nat) (L : List OpT), s5 = .int .i64 a ∧ a ≤ ln ∧ ln ≤ a + g ∧ L.length ≤ a ∧ Hid (allF bs g a L = allO bs) ∧ Hid (OwnL w.heap.size wx s4 L) ∧ Hid (Below w.heap.size w wx))
  case atStart => exact ⟨0, [], rfl, Nat.zero_le _, by omega, Nat.zero_le _, HO, Lib.hid (World.ownsRow_nil _ _ _ _), Lib.hid (Below.refl _ _)⟩
  case round =>
    obtain ⟨a, L, rfl, ha1, ha2, ha3, HA, OW, HB⟩ := hrel
    clear HO
    by_cases hlt : a < ln
    · obtain ⟨g, rfl⟩ : ∃ g, gk = g + 1 := ⟨gk - 1, by omega⟩
      have HC := Lib.hid (HAt.out wr a HB.out hlt)
      have HS := Lib.hid (HST.out a hlt)
      have HA' : Hid ((if atE bs a = 0 then allF bs g (a + (atO bs a).l.toNat) (L ++ [atO bs a]) else ([], atE bs a)) = allO bs) := Lib.hid (by
        have := HA.out
        unfold allF at this
        rwa [if_pos (by rw [HLN.out]; exact hlt)] at this)
      unfold AtPost at HC
      generalize atO bs a = o at *
      generalize atE bs a = er at *
      clear HA HAt HST
      have d1 : decide ((a : Int) < ln) = true := by simpa using hlt
      have d2 : decide (a < ln) = true := by simpa using hlt
      by_cases he : er = 0
      · subst he
        obtain ⟨s1, s2, s3⟩ := HS.out rfl
        go_upto_region 5 with (go_at_call 12; refine HC.out.mono ?_; rintro e w1 ⟨rfl, hb1⟩)
        have hb2 := (below_new w1 (.cells #[.int .i64 o.k, .int .i64 o.n, .int .i64 o.m, .int .i64 o.l] 25))
        have B6 := Lib.hid (box_new w1 (.int .i64 o.k) (.int .i64 o.n) (.int .i64 o.m) (.int .i64 o.l))
        have O6 := Lib.hid (OwnL.next (OwnL.next OW.out hb1) hb2)
        have K6 := Lib.hid ((HB.out.trans (hb1.mono HB.out.size)).trans (hb2.mono (Nat.le_trans HB.out.size hb1.size)))
        have HNE : Hid (∀ g, u4.ownBlock = some g → g ≠ w1.heap.size) := Lib.hid fun g hg => Nat.ne_of_lt (Nat.lt_of_lt_of_le (World.ownsRow.lt OW.out g hg).2 hb1.size)
        generalize w1.alloc (.cells #[.int .i64 o.k, .int .i64 o.n, .int .i64 o.m, .int .i64 o.l] 25) = w2 at *
        generalize w1.heap.size = p6 at *
        clear hb1 hb2 OW HB
        obtain ⟨⟨p0, p1, p2, p3⟩, pf, _⟩ := B6.out
        obtain ⟨xx, xc, rfl⟩ : ∃ x c, u4 = .slice x L.length c := own_form O6.out
        have hown := O6.out
        unfold OwnL at hown
        have hll : L.length ≤ 1000000000000 := by omega
        have HBw := K6.out.size
        have hol : (a : Int) + o.l ≤ 1000000000003 := by omega
        have hol0 : (0 : Int) ≤ (a : Int) + o.l := by omega
        go_wp2_with (at_builtin; refine wpList_append_own _ rfl _ _ 31 rfl w.heap.size 25 i0 (.agg #[.int .i64 0, .int .i64 0, .int .i64 0, .int .i64 0]) 4 32 Tryd.underlying31 hi hz0 hz1 hz2 rfl (by decide) _ _ _ rfl (hown.alloc _) ⟨w2.heap.size, 0, none⟩ 1 1 (cells4 o) rfl rfl ?c1 ?c2 ?c3 ?c4 ?c5 ?_)
        case c1 =>
          intro j u hj
          match j, hj with
          | 0, hj => simp [cells4] at hj; subst hj; simp [Addr.add]
          | 1, hj => simp [cells4] at hj; subst hj; simp [Addr.add]
          | 2, hj => simp [cells4] at hj; subst hj; simp [Addr.add]
          | 3, hj => simp [cells4] at hj; subst hj; simp [Addr.add]
        case c2 => intro u hu; simp [cells4] at hu; rcases hu with rfl | rfl | rfl | rfl <;> rfl
        case c3 => unfold maxLen; omega
        case c4 => omega
        case c5 => simp; omega
        intro v' w3 hown' hgrow _
        have hR := all_step (v' := v') o (Nat.le_refl _) O6.out K6.out hown' hgrow
        have O7 := Lib.hid hR.1
        have K7 := Lib.hid hR.2
        have q3 : w3.cell? ⟨p6, 3, none⟩ = some (.int .i64 o.l) := by
          have h1 : p6 < w2.heap.size := B6.out.2.2
          exact (World.cell?_of_block (w := w2) ((hgrow.block p6 (by simp; omega) (fun e => HNE.out p6 e.symm rfl)).trans (Below.heap_alloc w2 _ p6 h1))).trans p3
        clear hown' hgrow hown hR O6 K6 B6 p0 p1 p2 p3 pf HNE hi hz0 hz1 hz2
        go_wp2_with fail
        go_roundg g
        case rel => exact ⟨a + o.l.toNat, L ++ [o], by rw [show ((a + o.l.toNat : Nat) : Int) = (a : Int) + o.l by omega], by omega, by omega, by simp; omega, Lib.hid (by simpa using HA'.out), O7, K7⟩
        case measure => omega
      · have he2 : (er == 0) = false := by simpa using he
        have HF : Hid (allO bs = ([], er)) := Lib.hid (by have := HA'.out; rw [if_neg he] at this; exact this.symm)
        clear HA' HS OW
        go_wp2_with (go_at_call 12; refine HC.out.mono ?_; rintro e w1 ⟨rfl, hb1⟩)
        go_ret2
        refine ⟨_, by rw [HF.out]; rfl, by rw [HF.out]; exact World.ownsRow_nil _ _ _ _, (HB.out.trans (hb1.mono HB.out.size)).alloc (Nat.le_trans HB.out.size hb1.size) _⟩
    · have d1 : decide ((a : Int) < ln) = false := by simpa using hlt
      have d2 : decide (a < ln) = false := by simpa using hlt
      have HF : Hid (allO bs = (L, 0)) := Lib.hid (by rw [← HA.out, allF_end (by rw [HLN.out]; omega)])
      clear HAt HST HA
      go_wp2_with fail
      go_ret2
      refine ⟨_, by rw [HF.out]; rfl, by rw [HF.out]; exact OW.out, HB.out⟩
end Go.Proofs.YtmcikjihkgplaaaDoor
