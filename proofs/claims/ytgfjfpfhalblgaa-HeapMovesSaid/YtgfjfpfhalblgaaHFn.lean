/- What slices.IndexFunc, ContainsFunc, DeleteFunc do on numbers, with a predicate that only reads. -/
import Derived.Test.YtgfjfpfhalblgaaHRd
import Derived.Shelf.GgClosure.Gives
namespace Go.Proofs.Ytgfjfpfhalblgaa
set_option maxRecDepth 1000000
open Go.ChangeShapes Go.WideShapes Go.ChangeAt Go.RowKit

def idxIs (p : Int → Bool) (xs : List Int) (r : Int) : Prop := (r = -1 ∧ ∀ j, j < xs.length → p (xs.getD j 0) = false) ∨ ∃ k : Nat, k < xs.length ∧ r = k ∧ p (xs.getD k 0) = true ∧ ∀ j, j < k → p (xs.getD j 0) = false
/-- What the search tells; nothing has changed. -/
def IdxPost (p : Int → Bool) (xs : List Int) (w : World) (e : Ending) (w' : World) : Prop := ∃ r : Int, e = .returned (.int .i64 r) ∧ idxIs p xs r ∧ w = w'
theorem ints_form {N : Nat → Prop} {w : World} {v : Value} {xs : List Int} (h : Ints N w v xs) : ∃ a c, v = .slice a xs.length c ∧ xs.length ≤ c ∧ ∀ k, k < xs.length → ∃ b off, a = some ⟨b, off, none⟩ ∧ w.cell? ⟨b, off + k, none⟩ = some (.int .i64 (xs.getD k 0)) := by
  obtain ⟨a, c, rfl, hc, h⟩ := h
  rw [List.length_map] at hc ⊢
  refine ⟨a, c, rfl, hc, fun k hk => ?_⟩
  rcases h with h | ⟨b, off, rfl, _, h⟩
  · rw [List.map_eq_nil_iff] at h; subst h; simp at hk
  · exact ⟨b, off, rfl, h k _ (by simp [List.getElem?_eq_getElem hk, List.getD])⟩

set_option maxHeartbeats 1000000 in
theorem index_any {N : Nat → Prop} (g : Nat) (lb : Array Value) (eg : ∀ args w, (callFunc g args).run Try.prog w = .ok (.enter g args) w) (p : Int → Bool) (v : Value) (xs : List Int) (w : World) (hv : Ints N w v xs) (hl : xs.length ≤ 9223372036854775807)
    (hp : ∀ x ∈ xs, Calls Try.prog g (#[.int .i64 x] ++ lb) w fun e w' => e = .returned (.bool (p x)) ∧ w = w') :
    Calls Try.prog 30 #[v, .func (.func g) #[] lb] w (IdxPost p xs w) := by
  obtain ⟨a, c, rfl, hc, hcell⟩ := ints_form hv
  have HC := Lib.hid hcell
  have HP := Lib.hid hp
  clear hv hcell hp
  go_enter Try.func30, Try.ntmps30
  go_wp2
  go_loop [8] (fun s8 => ∃ k : Nat, k ≤ xs.length ∧ s8 = .int .i64 k ∧ Hid (∀ j, j < k → p (xs.getD j 0) = false)) (fun i => xs.length - (intOf i).toNat)
  case atStart => exact ⟨0, Nat.zero_le _, rfl, Lib.hid (fun j hj => by omega)⟩
  case round =>
    obtain ⟨k, hk, rfl, HA⟩ := hrel
    by_cases hlt : k < xs.length
    · obtain ⟨b, off, rfl, c1⟩ := HC.out k hlt
      have hcall := HP.out (xs.getD k 0) (getD_mem hlt)
      obtain ⟨x, hx⟩ : ∃ x, xs.getD k 0 = x := ⟨_, rfl⟩
      have HX := Lib.hid hx
      rw [hx] at c1 hcall
      clear hx
      cases hq : p x with
      | true =>
        rw [hq] at hcall
        have HQ := Lib.hid hq
        have HCL := Lib.hid hcall
        clear hcall hq
        go_wp2_with (go_at_fn g; refine HCL.out.mono ?_; rintro e w1 ⟨rfl, rfl⟩)
        go_ret
        exact ⟨k, rfl, .inr ⟨k, hlt, rfl, by rw [HX.out]; exact HQ.out, HA.out⟩, rfl⟩
      | false =>
        rw [hq] at hcall
        have HQ := Lib.hid hq
        have HCL := Lib.hid hcall
        clear hcall hq
        go_wp2_with (go_at_fn g; refine HCL.out.mono ?_; rintro e w1 ⟨rfl, rfl⟩)
        go_round
        case rel => exact ⟨k + 1, by omega, by go_num, Lib.hid (fun j hj => by
          by_cases h : j = k
          · rw [h, HX.out]; exact HQ.out
          · exact HA.out j (by omega))⟩
        case measure => simp [intOf]; omega
    · obtain rfl : k = xs.length := by omega
      go_wp2
      go_ret
      exact ⟨-1, rfl, .inl ⟨rfl, HA.out⟩, rfl⟩
theorem contains_any {N : Nat → Prop} (g : Nat) (lb : Array Value) (eg : ∀ args w, (callFunc g args).run Try.prog w = .ok (.enter g args) w) (p : Int → Bool) (v : Value) (xs : List Int) (w : World) (hv : Ints N w v xs) (hl : xs.length ≤ 9223372036854775807)
    (hp : ∀ x ∈ xs, Calls Try.prog g (#[.int .i64 x] ++ lb) w fun e w' => e = .returned (.bool (p x)) ∧ w = w') :
    Calls Try.prog 27 #[v, .func (.func g) #[] lb] w fun e w' => e = .returned (.bool (xs.any p)) ∧ w = w' := by
  have HI := Lib.hid (index_any g lb eg p v xs w hv hl hp)
  have HR : Hid (∀ r, idxIs p xs r → xs.any p = decide (0 ≤ r)) := fun r hr => by
    rcases hr with ⟨rfl, h⟩ | ⟨k, hk, rfl, h1, h2⟩
    · have : xs.any p = false := by
        rw [List.any_eq_false]
        intro x hx
        obtain ⟨j, hj, rfl⟩ := List.mem_iff_getElem.1 hx
        have := h j hj
        rw [List.getD, List.getElem?_eq_getElem hj] at this
        simpa using this
      rw [this]; rfl
    · have : xs.any p = true := by
        rw [List.any_eq_true]
        exact ⟨_, getD_mem hk, h1⟩
      rw [this]; symm; exact decide_eq_true (by omega)
  obtain ⟨a, c, rfl, _, _⟩ := hv
  rw [List.length_map] at *
  clear hp hl eg
  go_enter Try.func27, Try.ntmps27
  go_wp2_with fail
  refine HI.out.mono ?_
  rintro e w1 ⟨r, rfl, hr, rfl⟩
  have HS : Hid (xs.any p = decide (0 ≤ r)) := HR.out r hr
  clear hr
  go_wp2
  go_ret
  exact ⟨by rw [HS.out]; rfl, rfl⟩

/-! The test of Write. -/
def badW (x : Int) : Bool := decide (x < 0) || decide (65535 < x)
theorem eg28 : ∀ args w, (callFunc 28 args).run Try.prog w = .ok (.enter 28 args) w := enters_of Try.func28 (by kernel_rfl) rfl
theorem bad_any (x : Int) (w : World) : Calls Try.prog 28 #[.int .i64 x] w fun e w' => e = .returned (.bool (badW x)) ∧ w = w' := by
  by_cases h : x < 0
  · have hd : decide (x < 0) = true := decide_eq_true h
    have hb : Hid (badW x = true) := by show _ = _; simp [badW, h]
    clear h
    go_enter Try.func28, Try.ntmps28
    go_wp2
    go_ret
    exact ⟨by rw [hb.out]; rfl, rfl⟩
  · have hd : decide (x < 0) = false := decide_eq_false h
    have hb : Hid (badW x = decide (65535 < x)) := by show _ = _; simp [badW, hd]
    go_enter Try.func28, Try.ntmps28
    go_wp2
    go_ret
    exact ⟨by rw [hb.out]; first | rfl | simp [hd], rfl⟩
end Go.Proofs.Ytgfjfpfhalblgaa
