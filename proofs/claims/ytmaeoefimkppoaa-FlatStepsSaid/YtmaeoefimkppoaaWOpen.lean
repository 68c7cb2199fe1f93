/- How an argument of type []byte or []int of a law is read: as a list of numbers; and what word.Get gives of the bytes that word.Put made. -/
import Derived.Test.YtmaeoefimkppoaaWAll
namespace Go.Proofs.Ytmaeoefimkppoaa.Wd
set_option maxRecDepth 1000000
open Go.ChangeShapes Go.WideShapes Go.ChangeAt Go.RowKit

theorem Try.laidOut : laidOutB Try.prog = true := by kernel_rfl
theorem Try.cells5 : Try.prog.cellsOf 5 = 1 := by kernel_rfl
theorem Try.cells3 : Try.prog.cellsOf 3 = 1 := by kernel_rfl
theorem Try.own : ownKnob Try.prog.godebug = none := by kernel_rfl

theorem wf_u8 {n : Int} (h : (Lit.int .u8 n).wf = true) : 0 ≤ n ∧ n ≤ 255 := by
  have h1 : IntKind.u8.min = 0 := rfl
  have h2 : IntKind.u8.max = 255 := rfl
  simp only [Lit.wf, Bool.and_eq_true, decide_eq_true_eq] at h
  omega

theorem open_row {H : Type} {enc : TypeId × Value → H} {W : World} {t e : TypeId} {k : IntKind} {a0 : Option Addr} {len cap : Nat} {d : DataW H} {ps : List MemPlace}
    (ht : Try.prog.underlying t = some (.slice e)) (he : Try.prog.underlying e = some (.int k)) (hc : Try.prog.cellsOf e = 1)
    (h : DataW.Trod enc Try.prog W 0 (fun _ => true) true t (.slice a0 len cap) d ps) :
    ∃ xs : List Int, xs.length = len ∧ len ≤ maxLen ∧ (∀ n ∈ xs, (Lit.int k n).wf = true) ∧ (xs = [] ∨ ∃ b off, a0 = some ⟨b, off, none⟩ ∧ ∀ i, i < xs.length → W.cell? ⟨b, off + i, none⟩ = some (.int k (xs.getD i 0))) := by
  obtain ⟨fuel, hf⟩ := h
  rcases open_ints ht he hc hf with ⟨hcs, _⟩ | ⟨a, len', cap', zs, hcs, _, hl, hm, hz, _, hcell, hwz⟩
  · simp [Value.cells] at hcs
    obtain ⟨rfl, rfl, rfl⟩ := hcs
    exact ⟨[], rfl, Nat.zero_le _, by simp, .inl rfl⟩
  · simp [Value.cells] at hcs
    obtain ⟨rfl, rfl, rfl⟩ := hcs
    simp only [if_true] at hz
    have e1 : (zs.take len).length = len := by rw [List.length_take]; omega
    refine ⟨zs.take len, e1, by omega, fun n hn => hwz n (List.mem_of_mem_take hn), ?_⟩
    by_cases h0 : len = 0
    · left; subst h0; rfl
    · obtain ⟨b, off, spot⟩ := a
      have hspot : spot = none := by simpa [Addr.add] using World.cell?_spot (hcell 0 (by omega))
      subst hspot
      refine .inr ⟨b, off, rfl, fun i hi => ?_⟩
      rw [e1] at hi
      have := hcell i (by omega)
      rw [add_plain] at this
      rw [this]
      simp [List.getD, hi]

theorem bytes_of {xs : List Int} (h : ∀ n ∈ xs, (Lit.int .u8 n).wf = true) : Bytes xs := by
  intro i
  by_cases hi : i < xs.length
  · have e : xs.getD i 0 = xs[i] := by simp [List.getD, List.getElem?_eq_getElem hi]
    rw [e]; exact wf_u8 (h _ (List.getElem_mem hi))
  · have e : xs.getD i 0 = 0 := by simp [List.getD, List.getElem?_eq_none (Nat.le_of_not_lt hi)]
    rw [e]; omega

/-- An argument of type []byte. -/
theorem open_bts {H : Type} {enc : TypeId × Value → H} {W : World} {base : Nat} {v : Value} {d : DataW H} {ps : List MemPlace} (hok : Value.okWide Try.prog W .any base 31 v)
    (h : DataW.Trod enc Try.prog W 0 (fun _ => true) true 31 v d ps) : ∃ xs, Bts W v xs ∧ Bytes xs ∧ xs.length ≤ maxLen := by
  obtain ⟨a0, len, cap, rfl⟩ := okWide_slice Try.underlying31 hok
  obtain ⟨xs, rfl, hm, hw, hx⟩ := open_row Try.underlying31 Try.underlying5 Try.cells5 h
  exact ⟨xs, ⟨_, _, rfl, hx⟩, bytes_of hw, hm⟩
/-- An argument of type []int. -/
theorem open_nums {H : Type} {enc : TypeId × Value → H} {W : World} {base : Nat} {v : Value} {d : DataW H} {ps : List MemPlace} (hok : Value.okWide Try.prog W .any base 30 v)
    (h : DataW.Trod enc Try.prog W 0 (fun _ => true) true 30 v d ps) : ∃ xs, Ints W v xs ∧ xs.length ≤ maxLen := by
  obtain ⟨a0, len, cap, rfl⟩ := okWide_slice Try.underlying30 hok
  obtain ⟨xs, rfl, hm, hw, hx⟩ := open_row Try.underlying30 Try.underlying3 Try.cells3 h
  exact ⟨xs, ⟨_, _, rfl, hx⟩, hm⟩

theorem acc_app (xs ys : List Int) (p k : Nat) (h : p + k ≤ ys.length) : acc (xs ++ ys) (xs.length + p) k = acc ys p k := by
  induction k with
  | zero => rfl
  | succ k ih =>
    simp only [acc]
    rw [ih (by omega)]
    congr 1
    rw [Nat.add_assoc]
    simp [List.getD, List.getElem?_append_right]
theorem acc_byts (o : Int) : acc (byts o 4) 0 4 = o % 4294967296 := by
  rw [byts4]
  show (((0 * 256 + o % 4294967296 / 16777216) * 256 + o % 4294967296 / 65536 % 256) * 256 + o % 4294967296 / 256 % 256) * 256 + o % 256 = _
  omega
theorem sgn_mod (o : Int) (h1 : -2147483648 ≤ o) (h2 : o ≤ 2147483647) : sgn (o % 4294967296) = o := by unfold sgn; split <;> omega
theorem sgn_mod' (o : Int) : sgn (o % 4294967296) % 4294967296 = o % 4294967296 := by unfold sgn; split <;> omega

theorem oop_is (n : Int) (w : World) (a : 1 ≤ n) (b : n ≤ 1073741823) : Calls Try.prog 59 #[.int .i64 n] w fun e w' => e = .returned (.int .i64 (2 * n)) ∧ w = w' := by
  have h := oop_any n w (by omega) (by omega)
  rw [← oop_yes a b] at h; exact h
theorem oop_not (n : Int) (w : World) (h1 : -9223372036854775808 ≤ n) (h2 : n ≤ 9223372036854775807) (a : ¬ (1 ≤ n ∧ n ≤ 1073741823)) : Calls Try.prog 59 #[.int .i64 n] w fun e w' => e = .returned (.int .i64 0) ∧ w = w' := by
  have h := oop_any n w h1 h2
  rw [← oop_no a] at h; exact h
theorem named_is (n : Int) (w : World) (a : 1 ≤ n) (b : n ≤ 1073741823) : Calls Try.prog 61 #[.int .i64 (2 * n)] w fun e w' => e = .returned (.tuple #[.int .i64 n, .bool true]) ∧ w = w' := by
  have h := named_any (2 * n) w (by omega) (by omega)
  have e := nam_yes (o := 2 * n) (by omega) (by omega) (by omega)
  rw [← e.1, ← e.2, show 2 * n / 2 = n by omega] at h; exact h
theorem named_odd (n : Int) (w : World) (a : -1073741824 ≤ n) (b : n ≤ 1073741823) : Calls Try.prog 61 #[.int .i64 (2 * n + 1)] w fun e w' => e = .returned (.tuple #[.int .i64 0, .bool false]) ∧ w = w' := by
  have h := named_any (2 * n + 1) w (by omega) (by omega)
  have e := nam_no (o := 2 * n + 1) (by omega)
  rw [← e.1, ← e.2] at h; exact h
theorem number_even (n : Int) (w : World) (a : 1 ≤ n) (b : n ≤ 1073741823) : Calls Try.prog 64 #[.int .i64 (2 * n)] w fun e w' => e = .returned (.tuple #[.int .i64 0, .bool false]) ∧ w = w' :=
  number_no _ w (by omega) (by omega) (by omega)
theorem number_of (n : Int) (w : World) (a : -1073741824 ≤ n) (b : n ≤ 1073741823) : Calls Try.prog 64 #[.int .i64 (2 * n + 1)] w fun e w' => e = .returned (.tuple #[.int .i64 n, .bool true]) ∧ w = w' := by
  have h := number_yes (2 * n + 1) w (by omega) (by omega) (by omega)
  rw [show (2 * n + 1) / 2 = n by omega] at h; exact h
end Go.Proofs.Ytmaeoefimkppoaa.Wd
