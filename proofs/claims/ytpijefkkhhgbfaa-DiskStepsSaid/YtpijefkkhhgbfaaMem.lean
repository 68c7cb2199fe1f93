/- What the laws' own functions Copy and Spoil do: new bytes; bytes of one's own written over. -/
import Derived.Test.YtpijefkkhhgbfaaLay
namespace Go.Proofs.Ytpijefkkhhgbfaa
open Go.ChangeShapes Go.WideShapes Go.ChangeAt Go.RowKit

theorem own_only {w w' : World} {base n : Nat} {e : TypeId} {v : Value} {xs : List Value} {F : Nat → Prop} (h : w.ownsRow base e 1 v n xs) (o : Only F w w') (hF : ∀ b, base ≤ b → ¬ F b) : w'.ownsRow base e 1 v n xs :=
  ⟨h.1, h.2.imp id fun ⟨g, cap, cur, h1, h2, h3, h4⟩ => ⟨g, cap, cur, h1, h2, (o.block g (Array.getElem?_eq_some_iff.1 h3).1 (hF g h2)).trans h3, h4⟩⟩
theorem bts_take {N : Nat → Prop} {w : World} {g cp n : Nat} {xs : List Int} (h : Bts N w (.slice (some ⟨g, 0, none⟩) n cp) xs) (k : Nat) (hk : k ≤ xs.length) : Bts N w (.slice (some ⟨g, 0, none⟩) k cp) (xs.take k) := by
  obtain ⟨a, c, he, hc, h⟩ := h
  injection he with e1 e2 e3
  subst e1 e3
  have hl : (xs.take k).length = k := by rw [List.length_take]; omega
  rw [List.length_map] at hc
  refine ⟨_, cp, by rw [List.length_map, hl], by rw [List.length_map, hl]; omega, ?_⟩
  rcases h with h | ⟨b, off, ha, hb, h⟩
  · left
    rw [List.map_eq_nil_iff] at h
    rw [h]; simp
  · refine .inr ⟨b, off, ha, hb, fun j u hu => h j u ?_⟩
    rw [List.getElem?_map, List.getElem?_take] at hu
    rw [List.getElem?_map]
    split at hu
    · exact hu
    · cases hu
theorem pad_take (bs : List Int) : (pad bs).take bs.length = bs := by simp [pad]

/-- What gives new bytes, or none. -/
def Copied (xs : List Int) (w : World) (e : Ending) (w' : World) : Prop := ∃ v, e = .returned v ∧ w'.ownsRow w.heap.size 5 1 v xs.length (xs.map (Value.int .u8)) ∧ Below w.heap.size w w'

set_option maxHeartbeats 1000000 in
theorem copy_any {N : Nat → Prop} (v : Value) (xs : List Int) (w : World) (hv : Bts N w v xs) (hl : xs.length ≤ 1000000) :
    Calls Try.prog 22 #[v] w (Copied xs w) := by
  obtain ⟨i0, hi, hz0, hz1, hz2⟩ := info_parts Try.info5
  obtain ⟨a, c, rfl, hc, h⟩ := hv
  rw [List.length_map] at hc ⊢
  rcases a with _ | ⟨b, off, spot⟩
  · have h0 : xs = [] := by
      rcases h with h | ⟨b, off, ha, _⟩
      · exact List.map_eq_nil_iff.1 h
      · cases ha
    subst h0
    have hr : ∀ ty, (Builtin.append_ #[30, 30] ty #[.slice none 0 0, .slice none 0 c]).run Try.prog w = .ok (.slice none 0 0) w := fun ty => by
      simp [Builtin.append_, run_underlying Try.underlying30, sizeOf, typeInfo, hi, Builtin.lenOf, Builtin.firstCells]
    go_enter Try.func22, Try.ntmps22
    go_wp2
    go_ret
    exact ⟨_, rfl, World.ownsRow_nil _ _ _ _, Below.refl _ _⟩
  · have hsrc : Hid (∀ j u, (xs.map (Value.int .u8))[j]? = some u → w.cell? ((⟨b, off, spot⟩ : Addr).add j) = some u) := by
      rcases h with h | ⟨b', off', ha, _, h⟩
      · rw [h]; intro j u hu; simp at hu
      · injection ha with ha
        injection ha with e1 e2 e3
        subst e1 e2 e3
        intro j u hu
        rw [add_plain]
        exact h j u hu
    clear h
    go_enter Try.func22, Try.ntmps22
    go_wp2_with (at_builtin; refine wpList_append_own _ rfl _ _ 30 rfl w.heap.size 5 i0 (.int .u8 0) 1 1 Try.underlying30 hi hz0 hz1 hz2 rfl (by decide) _ 0 [] rfl ?c0 ⟨b, off, spot⟩ xs.length c (xs.map (Value.int .u8)) rfl (by simp) ?c1 ?c2 ?c3 ?c4 ?c5 ?_)
    case c0 => exact World.ownsRow_nil _ _ _ _
    case c1 => exact hsrc.out
    case c2 => intro u hu; simp at hu; obtain ⟨x, _, rfl⟩ := hu; rfl
    case c3 => unfold maxLen; omega
    case c4 => omega
    case c5 => simp
    intro v' w1 hown' hgrow _
    have hb : Below w.heap.size w w1 := (Below.refl _ _).grown hgrow (by simp) (fun k hk => by simp [Value.ownBlock] at hk)
    have HO := Lib.hid hown'
    have HB := Lib.hid hb
    clear hown' hgrow hb
    go_wp2
    go_ret
    exact ⟨v', rfl, by simpa using HO.out, HB.out⟩

def SpoilInv (g base lim len k : Nat) (xs : List Int) (w wr : World) : Prop :=
  (∀ j, k ≤ j → j < len → wr.cell? ⟨g, j, none⟩ = some (.int .u8 (xs.getD j 0))) ∧ (∀ j, wr.frozen? ⟨g, j, none⟩ = false) ∧ Only (fun b => base ≤ b ∧ b < lim) w wr

def Done1 (base lim : Nat) (w : World) (e : Ending) (w' : World) : Prop := e = .returned (.tuple #[]) ∧ Only (fun b => base ≤ b ∧ b < lim) w w'
def Done0 (base : Nat) (w : World) (e : Ending) (w' : World) : Prop := e = .returned (.tuple #[]) ∧ Only (base ≤ ·) w w'

set_option maxHeartbeats 1000000 in
theorem spoil_lim (base lim : Nat) (v : Value) (xs : List Int) (w : World) (hown : w.ownsRow base 5 1 v xs.length (xs.map (Value.int .u8))) (hl : xs.length ≤ 1000000) (hm : ∀ g, v.ownBlock = some g → g < lim) :
    Calls Try.prog 14 #[v] w (Done1 base lim w) := by
  obtain ⟨g, hg, hinv, a, c, ha, rfl⟩ : ∃ g, (0 < xs.length → base ≤ g ∧ g < lim) ∧ SpoilInv g base lim xs.length 0 xs w w ∧ ∃ a c, (0 < xs.length → a = some ⟨g, 0, none⟩) ∧ v = .slice a xs.length c := by
    rcases hown.2 with ⟨rfl, h0⟩ | ⟨g, cap, cur, rfl, hb, hg, hn, _⟩
    · have h0' : xs = [] := List.eq_nil_of_length_eq_zero h0
      subst h0'
      exact ⟨max base w.heap.size, fun h => by simp at h, ⟨fun j _ hj => by simp at hj, fun j => by
        have h : w.heap[max base w.heap.size]? = none := Array.getElem?_eq_none (by omega)
        unfold World.frozen?
        simp only [h], Only.refl _ _⟩, none, 0, by simp, rfl⟩
    · refine ⟨g, fun _ => ⟨hb, hm g rfl⟩, ⟨fun j _ hj => ?_, fun j => ?_, Only.refl _ _⟩, _, cap, fun _ => rfl, rfl⟩
      · have := hown.cells (g := g) rfl j (.int .u8 (xs.getD j 0)) (by rw [List.getElem?_map, List.getElem?_eq_getElem hj, List.getD, List.getElem?_eq_getElem hj]; rfl)
        rwa [add_plain, Nat.zero_add] at this
      · unfold World.frozen?
        simp only [hg]
        simp
  have HI := Lib.hid hinv
  clear hown hinv hm
  have HG := Lib.hid hg
  clear hg
  go_enter Try.func14, Try.ntmps14
  go_wp2
  go_loopw [2] (fun i wr => ∃ k : Nat, k ≤ xs.length ∧ i = .int .i64 k ∧ SpoilInv g base lim xs.length k xs w wr) (fun i _ => xs.length - (intOf i).toNat)
  case atStart => exact ⟨0, Nat.zero_le _, rfl, HI.out⟩
  case round =>
    obtain ⟨k, hk, rfl, hc, hf, ho⟩ := hrel
    have HC := Lib.hid hc
    have HF := Lib.hid hf
    have HO := Lib.hid ho
    have hck := fun h => hc k (Nat.le_refl _) h
    have hfk := hf k
    clear hc hf ho
    by_cases hlt : k < xs.length
    · have hck := hck hlt
      have ha := ha (by omega)
      subst ha
      generalize xs.getD k 0 = q at hck
      go_wp2
      go_roundw
      case rel =>
        refine ⟨k + 1, by omega, by go_num, fun j h1 h2 => ?_, fun j => ?_, ?_⟩
        · rw [World.cell?_setCell_other _ _ _ _ (by intro e; injection e; omega)]; exact HC.out j (by omega) h2
        · rw [World.frozen?_setCell]; exact HF.out j
        · exact HO.out.setCell ⟨g, _, none⟩ (.inl (HG.out (by omega))) _
      case measure => simp [intOf]; omega
    · go_wp2
      go_end0
      exact ⟨rfl, HO.out⟩
theorem spoil_any (base : Nat) (v : Value) (xs : List Int) (w : World) (hown : w.ownsRow base 5 1 v xs.length (xs.map (Value.int .u8))) (hl : xs.length ≤ 1000000) :
    Calls Try.prog 14 #[v] w (Done0 base w) :=
  (spoil_lim base w.heap.size v xs w hown hl (fun g hg => (hown.lt g hg).2)).mono fun _ _ ⟨he, ho⟩ => ⟨he, ho.mono fun _ _ h => h.1⟩
theorem spoil_none (a : Option Addr) (c : Nat) (w : World) : Calls Try.prog 14 #[.slice a 0 c] w fun e w' => e = .returned (.tuple #[]) ∧ w = w' := by
  go_enter Try.func14, Try.ntmps14
  go_wp2
  go_loop [2] (fun i => i = .int .i64 0) (fun _ => 0)
  case atStart => rfl
  case round =>
    subst hrel
    go_wp2
    go_end0
    exact ⟨rfl, rfl⟩
end Go.Proofs.Ytpijefkkhhgbfaa
