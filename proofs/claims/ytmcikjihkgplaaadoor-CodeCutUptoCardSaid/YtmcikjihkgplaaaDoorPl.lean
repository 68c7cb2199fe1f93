/- The package's Bytes: what it answers. -/
import Derived.Test.YtmcikjihkgplaaaDoorPk
namespace Go.Proofs.YtmcikjihkgplaaaDoor
set_option maxRecDepth 1000000
open Go.ChangeShapes Go.WideShapes Go.ChangeAt Go.RowKit

set_option maxHeartbeats 8000000 in
theorem bytes_code {N : Nat → Prop} (v : Value) (L : List OpT) (w : World) (hT : Tabs w) (hv : OpsAt N w v L) (hl : L.length ≤ 300000000000) : Calls Tryd.prog 19 #[v] w (BytesPost L w) := by
  obtain ⟨ln, hln⟩ : ∃ n, L.length = n := ⟨_, rfl⟩
  have HV : Hid (∀ w' (j : Nat), Below w.heap.size w w' → (hj : j < ln) → ∃ b off c o, v = .slice (some ⟨b, off, none⟩) ln c ∧ L[j]? = some o ∧ RowO w' b (off + j * 4) o) := Lib.hid fun w' j hb hj => by
    obtain ⟨b, off, c, hv', _, _, hr⟩ := (hv.next hb).at_ (j := j) (by omega)
    exact ⟨b, off, c, L[j], by rw [hv', hln], List.getElem?_eq_getElem (by omega), hr⟩
  have HLN := Lib.hid hln
  have HT := Lib.hid hT
  obtain ⟨va, vc, rfl, _⟩ := hv
  rw [hln] at hl HV ⊢
  clear hln hT
  unfold BytesPost
  go_enter Tryd.func19, Tryd.ntmps19
  go_wp2_with fail
  go_loopw [4, 10] (fun s4 s10 wx => ∃ (i : Nat) (B : List Int), i ≤ ln ∧ s10 = .int .i64 i ∧ B.length ≤ 3 * i ∧ Hid (∀ r, BytesIs (L.drop i) r → BytesIs L (r.map (B ++ ·))) ∧ Hid (OwnB w.heap.size wx s4 B) ∧ Hid (Below w.heap.size w wx)) (fun _ s10 _ => ln - (RowKit.intOf s10).toNat)
  case atStart => exact ⟨0, [], Nat.zero_le _, rfl, Nat.zero_le _, Lib.hid (fun r h => by
    have : r.map (([] : List Int) ++ ·) = r := by cases r <;> simp
    rw [this]; simpa using h), Lib.hid (World.ownsRow_nil _ _ _ _), Lib.hid (Below.refl _ _)⟩
  case round =>
    obtain ⟨i, B, hi1, rfl, hB, HI, OW, HB⟩ := hrel
    by_cases hlt : i < ln
    · obtain ⟨b, off, c, o, hvv, ho, hr⟩ := HV.out wr i HB.out hlt
      injection hvv with e1 _ e3
      subst e1 e3
      obtain ⟨x0, x1, x2, x3⟩ := hr
      have hD : L.drop i = o :: L.drop (i + 1) := by
        obtain ⟨hlen, he⟩ := List.getElem?_eq_some_iff.1 ho
        rw [List.drop_eq_getElem_cons hlen, he]
      have HI' : Hid (∀ r, BytesIs (o :: L.drop (i + 1)) r → BytesIs L (r.map (B ++ ·))) := Lib.hid (by rw [← hD]; exact HI.out)
      have d1 : decide ((i : Int) < ln) = true := by simpa using hlt
      have d2 : decide (i < ln) = true := by simpa using hlt
      have B4 := Lib.hid (box_new wr (.int .i64 o.k) (.int .i64 o.n) (.int .i64 o.m) (.int .i64 o.l))
      have O4 := Lib.hid (OwnB.next OW.out (below_new wr (.cells #[.int .i64 o.k, .int .i64 o.n, .int .i64 o.m, .int .i64 o.l] 25)))
      have K4 := Lib.hid (HB.out.alloc HB.out.size (.cells #[.int .i64 o.k, .int .i64 o.n, .int .i64 o.m, .int .i64 o.l] 25))
      clear hD HI HV ho
      go_upto_region 5 with fail
      generalize wr.alloc (.cells #[.int .i64 o.k, .int .i64 o.n, .int .i64 o.m, .int .i64 o.l] 25) = w2 at *
      have HW := Lib.hid (write_code w.heap.size u4 B o w2 (HT.out.next K4.out) O4.out K4.out.size (by omega))
      unfold WritePost at HW
      obtain ⟨⟨p0, p1, p2, p3⟩, pf, _⟩ := B4.out
      clear x0 x1 x2 x3 OW HB
      go_upto_region 7 with (go_at_call 28; refine HW.out.mono ?_; rintro e w3 ⟨r, vb, hone, hk0, rfl, hob, hb3⟩)
      have K5 := Lib.hid (K4.out.trans hb3)
      have O5 := Lib.hid hob
      have HOne := Lib.hid hone
      have HK0 := Lib.hid hk0
      clear hone hk0 hob hb3 HW p0 p1 p2 p3 pf B4 O4 K4
      cases r with
      | none =>
        have HF : Hid (BytesIs L none) := Lib.hid (HI'.out none (.bad o _ (by
          by_cases h : o.k = 0
          · exact .inr h
          · exact .inl (HOne.out h))))
        go_wp2_with fail
        go_ret2
        first | exact ⟨none, _, HF.out, rfl, World.ownsRow_nil _ _ _ _, K5.out⟩ | exact ⟨none, HF.out, _, rfl, World.ownsRow_nil _ _ _ _, K5.out⟩
      | some bb =>
        have hk : o.k ≠ 0 := fun h => by cases HK0.out h
        have HON := Lib.hid (HOne.out hk)
        have HN : Hid (∀ r, BytesIs (L.drop (i + 1)) r → BytesIs L (r.map ((B ++ bb) ++ ·))) := Lib.hid fun r hr => by
          have h := HI'.out _ (.cons o bb _ _ HON.out hk hr)
          cases r with
          | none => exact h
          | some x => simpa using h
        obtain ⟨_, b2, _⟩ := HON.out.len
        have hob := O5.out
        simp only [Option.map_some, Option.getD_some] at hob
        have O6 := Lib.hid hob
        have HBL : Hid ((B ++ bb).length ≤ 3 * (i + 1)) := Lib.hid (by rw [List.length_append]; omega)
        clear hob O5 HOne HK0 hk b2
        go_wp2_with fail
        exact ⟨⟨i + 1, B ++ bb, by omega, by go_num, HBL.out, HN, O6, K5⟩, by simp [RowKit.intOf]; omega⟩
    · have hi' : i = ln := by omega
      have d1 : decide ((i : Int) < ln) = false := by simp [hi']
      have d2 : decide (i < ln) = false := by simp [hi']
      have HF : Hid (BytesIs L (some B)) := Lib.hid (by
        have := HI.out (some []) (by rw [List.drop_of_length_le (by rw [HLN.out]; omega)]; exact .nil)
        simpa using this)
      clear HI HV hi' hlt
      go_wp2_with fail
      go_ret2
      exact ⟨some B, _, HF.out, rfl, OW.out, HB.out⟩
end Go.Proofs.YtmcikjihkgplaaaDoor
