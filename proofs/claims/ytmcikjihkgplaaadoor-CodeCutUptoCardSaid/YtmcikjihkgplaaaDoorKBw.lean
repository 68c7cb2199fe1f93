/- The walk of the document's Bytes. -/
import Derived.Test.YtmcikjihkgplaaaDoorKBy
namespace Go.Proofs.YtmcikjihkgplaaaDoor
set_option maxRecDepth 1000000
open Go.ChangeShapes Go.WideShapes Go.ChangeAt Go.RowKit

theorem bytes_add {base : Nat} {xs ys : List Int} {w wr w1 : World} {u v' : Value} (hb : base ≤ w.heap.size)
    (hown : OwnB base wr u xs) (hnx : Below base w wr)
    (hown' : w1.ownsRow base 5 1 v' (xs.length + ys.length) (xs.map (Value.int .u8) ++ ys.map (Value.int .u8))) (hgrow : wr.grownBy w1 u.ownBlock) :
    OwnB base w1 v' (xs ++ ys) ∧ Below base w w1 := by
  refine ⟨?_, hnx.grown hgrow (by have := hnx.size; omega) fun g hg => (World.ownsRow.lt hown g hg).1⟩
  unfold OwnB
  rw [List.map_append, List.length_append]
  exact hown'
set_option maxHeartbeats 8000000 in
theorem bytes_ref {N : Nat → Prop} (v : Value) (L : List OpT) (w : World) (hv : OpsAt N w v L) (hl : L.length ≤ 1000000000000) : Calls Tryd.prog 20 #[v] w (BytesPost L w) := by
  obtain ⟨i0, hi, hz0, hz1, hz2⟩ := info_parts Tryd.info5
  obtain ⟨ln, hln⟩ : ∃ n, L.length = n := ⟨_, rfl⟩
  have HV : Hid (∀ w' (j : Nat), Below w.heap.size w w' → (hj : j < ln) → ∃ b off c o, v = .slice (some ⟨b, off, none⟩) ln c ∧ L[j]? = some o ∧ RowO w' b (off + j * 4) o) := Lib.hid fun w' j hb hj => by
    obtain ⟨b, off, c, hv', _, _, hr⟩ := (hv.next hb).at_ (j := j) (by omega)
    exact ⟨b, off, c, L[j], by rw [hv', hln], List.getElem?_eq_getElem (by omega), hr⟩
  have HLN := Lib.hid hln
  obtain ⟨va, vc, rfl, _⟩ := hv
  rw [hln] at hl HV ⊢
  clear hln
  unfold BytesPost
  go_enter Tryd.func20, Tryd.ntmps20
  go_wp2_with fail
  go_loopw [4, 5] (fun s4 s5 wx => ∃ (i : Nat) (B : List Int), i ≤ ln ∧ s5 = .int .i64 i ∧ B.length ≤ 3 * i ∧ Hid (∀ r, BytesIs (L.drop i) r → BytesIs L (r.map (B ++ ·))) ∧ Hid (OwnB w.heap.size wx s4 B) ∧ Hid (Below w.heap.size w wx)) (fun _ s5 _ => ln - (RowKit.intOf s5).toNat)
  case atStart => exact ⟨0, [], Nat.zero_le _, rfl, Nat.zero_le _, Lib.hid (fun r h => by
    have : r.map (([] : List Int) ++ ·) = r := by cases r <;> simp
    rw [this]; simpa using h), Lib.hid (World.ownsRow_nil _ _ _ _), Lib.hid (Below.refl _ _)⟩
  case round =>
    obtain ⟨i, B, hi1, rfl, hB, HI, OW, HB⟩ := hrel
    by_cases hlt : i < ln
    · obtain ⟨b, off, c, o, hvv, ho, hr⟩ := HV.out wr i HB.out hlt
      injection hvv with e1 _ e3
      subst e1 e3
      obtain ⟨x0, x1, x2, x3⟩ := hr
      have hD : L.drop i = o :: L.drop (i + 1) := by
        obtain ⟨hlen, he⟩ := List.getElem?_eq_some_iff.1 ho
        rw [List.drop_eq_getElem_cons hlen, he]
      have HI' : Hid (∀ r, BytesIs (o :: L.drop (i + 1)) r → BytesIs L (r.map (B ++ ·))) := Lib.hid (by rw [← hD]; exact HI.out)
      have HO := Lib.hid (one_ref o wr)
      unfold OnePost at HO
      have d1 : decide ((i : Int) < ln) = true := by simpa using hlt
      have d2 : decide (i < ln) = true := by simpa using hlt
      have hX : Hid (∀ w', Below wr.heap.size wr w' → w'.cell? ⟨b, off + i * 4, none⟩ = some (.int .i64 o.k)) := Lib.hid fun w' hb => (hb.cell (p := ⟨b, off + i * 4, none⟩) (World.block_lt_of_cell? _ _ x0)).trans x0
      clear hD HI HV ho
      go_upto_region 6 with (go_at_call 29; refine HO.out.mono ?_; rintro e w2 ⟨r, vb, HOne, rfl, hob, hb2⟩)
      have OB := Lib.hid hob
      have ON := Lib.hid HOne
      have HB2 := Lib.hid (HB.out.trans (hb2.mono HB.out.size))
      have OW2 := Lib.hid (OwnB.next OW.out hb2)
      have y0 := hX.out _ hb2
      have hne : Hid (∀ g, vb.ownBlock = some g → u4.ownBlock = some g → False) := Lib.hid fun g h1 h2 => by
        have a1 := (World.ownsRow.lt hob g h1).1
        have a2 := (World.ownsRow.lt OW.out g h2).2
        omega
      clear HOne hob hb2 x0 x1 x2 x3 OW HB HO hX
      cases r with
      | none =>
        go_wp2_with fail
        go_ret2
        exact ⟨none, _, HI'.out _ (.bad _ _ (.inl ON.out)), rfl, World.ownsRow_nil _ _ _ _, HB2.out⟩
      | some bb =>
        by_cases hk : o.k = 0
        · have f1 : (o.k == 0) = true := by simpa using hk
          go_wp2_with fail
          go_ret2
          exact ⟨none, _, HI'.out _ (.bad _ _ (.inr hk)), rfl, World.ownsRow_nil _ _ _ _, HB2.out⟩
        · have f1 : (o.k == 0) = false := by simpa using hk
          have HK := Lib.hid hk
          obtain ⟨b1, b2, b3⟩ := ON.out.len
          have hob := OB.out
          simp only [Option.getD_some] at hob
          have OB' := Lib.hid hob
          obtain ⟨m, hm⟩ : ∃ m, bb.length = m := ⟨_, rfl⟩
          rcases hob.2 with ⟨_, h0⟩ | ⟨g, cap, cur, rfl, hbg, hgg, hnc, hrest⟩
          · omega
          · have hsrc : Hid (∀ j u, (bb.map (Value.int .u8))[j]? = some u → w2.cell? ((⟨g, 0, none⟩ : Addr).add j) = some u) := Lib.hid fun j u hu => World.ownsRow.cells (g := g) OB'.out rfl j u hu
            have hown := OW2.out
            unfold OwnB at hown
            have hsz := HB2.out.size
            have hml : (bb.map (Value.int .u8)).length = m := by rw [List.length_map, hm]
            have HM := Lib.hid hm
            rw [hm] at b1 b2
            obtain ⟨nB, hnB⟩ : ∃ n, B.length = n := ⟨_, rfl⟩
            have HNB := Lib.hid hnB
            rw [hnB] at hB hown
            clear hk hbg hgg hnc hrest OB hnB
            rw [hm]
            clear hm
            go_wp2_with (at_builtin; refine wpList_append_own _ rfl _ _ 22 rfl w.heap.size 5 i0 (.int .u8 0) 1 1 Tryd.underlying22 hi hz0 hz1 hz2 rfl (by decide) _ _ _ rfl hown ⟨g, 0, none⟩ m cap (bb.map (Value.int .u8)) rfl ?c0 ?c1 ?c2 ?c3 ?c4 ?c5 ?_)
            case c0 => omega
            case c1 => exact hsrc.out
            case c2 => intro u hu; obtain ⟨n, _, rfl⟩ := List.mem_map.1 hu; rfl
            case c3 => unfold maxLen; omega
            case c4 => omega
            case c5 => exact hsz
            intro v' w3 hown' hgrow _
            have hR := bytes_add (v' := v') (ys := bb) (Nat.le_refl _) OW2.out HB2.out (by rw [HNB.out, HM.out]; exact hown') hgrow
            have O7 := Lib.hid hR.1
            have K7 := Lib.hid hR.2
            clear hown' hgrow hown hR hml hsrc OB' y0
            go_wp2_with fail
            exact ⟨⟨i + 1, B ++ bb, by omega, by go_num, by rw [List.length_append, HNB.out, HM.out]; omega, Lib.hid (fun r hr => by
              have h := HI'.out _ (.cons o bb _ _ ON.out HK.out hr)
              cases r with
              | none => exact h
              | some x => simpa using h), O7, K7⟩, by simp [RowKit.intOf]; omega⟩
    · have hi' : i = ln := by omega
      have d1 : decide ((i : Int) < ln) = false := by simp [hi']
      have d2 : decide (i < ln) = false := by simp [hi']
      have HF : Hid (BytesIs L (some B)) := Lib.hid (by
        have := HI.out (some []) (by rw [List.drop_of_length_le (by rw [HLN.out]; omega)]; exact .nil)
        simpa using this)
      clear HI HV hi' hlt
      go_wp2_with fail
      go_ret2
      exact ⟨some B, _, HF.out, rfl, OW.out, HB.out⟩
end Go.Proofs.YtmcikjihkgplaaaDoor
