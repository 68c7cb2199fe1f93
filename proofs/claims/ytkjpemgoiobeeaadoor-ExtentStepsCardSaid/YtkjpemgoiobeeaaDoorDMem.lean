/- What the laws' own functions Copy and Spoil do: new bytes; bytes of one's own written over. -/
import Derived.Test.YtkjpemgoiobeeaaDoorDLay
namespace Go.Proofs.YtkjpemgoiobeeaaDoor
set_option maxRecDepth 1000000
open Go.ChangeShapes Go.WideShapes Go.ChangeAt Go.RowKit

theorem own_only {w w' : World} {base n : Nat} {e : TypeId} {v : Value} {xs : List Value} {F : Nat → Prop} (h : w.ownsRow base e 1 v n xs) (o : Only F w w') (hF : ∀ b, base ≤ b → ¬ F b) : w'.ownsRow base e 1 v n xs :=
  ⟨h.1, h.2.imp id fun ⟨g, cap, cur, h1, h2, h3, h4⟩ => ⟨g, cap, cur, h1, h2, (o.block g (Array.getElem?_eq_some_iff.1 h3).1 (hF g h2)).trans h3, h4⟩⟩
theorem bts_take {N : Nat → Prop} {w : World} {g cp n : Nat} {xs : List Int} (h : Bts N w (.slice (some ⟨g, 0, none⟩) n cp) xs) (k : Nat) (hk : k ≤ xs.length) : Bts N w (.slice (some ⟨g, 0, none⟩) k cp) (xs.take k) := by
  obtain ⟨a, c, he, hc, h⟩ := h
  injection he with e1 e2 e3
  subst e1 e3
  have hl : (xs.take k).length = k := by rw [List.length_take]; omega
  rw [List.length_map] at hc
  refine ⟨_, cp, by rw [List.length_map, hl], by rw [List.length_map, hl]; omega, ?_⟩
  rcases h with h | ⟨b, off, ha, hb, h⟩
  · left
    rw [List.map_eq_nil_iff] at h
    rw [h]; simp
  · refine .inr ⟨b, off, ha, hb, fun j u hu => h j u ?_⟩
    rw [List.getElem?_map, List.getElem?_take] at hu
    rw [List.getElem?_map]
    split at hu
    · exact hu
    · cases hu
theorem pad_take (bs : List Int) : (pad bs).take bs.length = bs := by simp [pad]

/-- What gives new bytes, or none. -/
def Copied (xs : List Int) (w : World) (e : Ending) (w' : World) : Prop := ∃ v, e = .returned v ∧ w'.ownsRow w.heap.size 5 1 v xs.length (xs.map (Value.int .u8)) ∧ Below w.heap.size w w'

set_option maxHeartbeats 1000000 in
theorem copy_any {N : Nat → Prop} (v : Value) (xs : List Int) (w : World) (hv : Bts N w v xs) (hl : xs.length ≤ 1000000) :
    Calls Tryd.prog 30 #[v] w (Copied xs w) := by
  obtain ⟨i0, hi, hz0, hz1, hz2⟩ := info_parts Tryd.info5
  obtain ⟨a, c, rfl, hc, h⟩ := hv
  rw [List.length_map] at hc ⊢
  rcases a with _ | ⟨b, off, spot⟩
  · have h0 : xs = [] := by
      rcases h with h | ⟨b, off, ha, _⟩
      · exact List.map_eq_nil_iff.1 h
      · cases ha
    subst h0
    have hr : ∀ ty, (Builtin.append_ #[33, 33] ty #[.slice none 0 0, .slice none 0 c]).run Tryd.prog w = .ok (.slice none 0 0) w := fun ty => by
      simp [Builtin.append_, run_underlying Tryd.underlying33, sizeOf, typeInfo, hi, Builtin.lenOf, Builtin.firstCells]
    go_enter Tryd.func30, Tryd.ntmps30
    go_wp2
    go_ret
    exact ⟨_, rfl, World.ownsRow_nil _ _ _ _, Below.refl _ _⟩
  · have hsrc : Hid (∀ j u, (xs.map (Value.int .u8))[j]? = some u → w.cell? ((⟨b, off, spot⟩ : Addr).add j) = some u) := by
      rcases h with h | ⟨b', off', ha, _, h⟩
      · rw [h]; intro j u hu; simp at hu
      · injection ha with ha
        injection ha with e1 e2 e3
        subst e1 e2 e3
        intro j u hu
        rw [add_plain]
        exact h j u hu
    clear h
    go_enter Tryd.func30, Tryd.ntmps30
    go_wp2_with (at_builtin; refine wpList_append_own _ rfl _ _ 33 rfl w.heap.size 5 i0 (.int .u8 0) 1 1 Tryd.underlying33 hi hz0 hz1 hz2 rfl (by decide) _ 0 [] rfl ?c0 ⟨b, off, spot⟩ xs.length c (xs.map (Value.int .u8)) rfl (by simp) ?c1 ?c2 ?c3 ?c4 ?c5 ?_)
    case c0 => exact World.ownsRow_nil _ _ _ _
    case c1 => exact hsrc.out
    case c2 => intro u hu; simp at hu; obtain ⟨x, _, rfl⟩ := hu; rfl
    case c3 => unfold maxLen; omega
    case c4 => omega
    case c5 => simp
    intro v' w1 hown' hgrow _
    have hb : Below w.heap.size w w1 := (Below.refl _ _).grown hgrow (by simp) (fun k hk => by simp [Value.ownBlock] at hk)
    have HO := Lib.hid hown'
    have HB := Lib.hid hb
    clear hown' hgrow hb
    go_wp2
    go_ret
    exact ⟨v', rfl, by simpa using HO.out, HB.out⟩

end Go.Proofs.YtkjpemgoiobeeaaDoor
