/- Calls of a memory through the interface of package flat: what some, All, Class, Size return. -/
import Derived.Test.YtmaeoefimkppoaaFCo
namespace Go.Proofs.Ytmaeoefimkppoaa.Fl
set_option maxRecDepth 1000000
open Go.ChangeShapes Go.WideShapes Go.ChangeAt Go.RowKit
open Go.Proofs.Ytmaeoefimkppoaa.Wd

/-- A memory as a value of the interface. -/
abbrev ifM (m : Nat) : Value := .iface 25 (.pointer (some ⟨m, 0, none⟩))
theorem eq_nil (w : World) (m : Nat) : (binOp .eql 77 (ifM m) Value.nilIface).run Try.prog w = .ok (.bool false) w := by rfl
theorem some_any (m : Nat) (w : World) : Calls Try.prog 47 #[ifM m] w fun e w' => e = .returned (ifM m) ∧ w = w' := by
  have h := fun w => eq_nil w m
  go_enter Try.func47, Try.ntmps47
  go_wp2
  go_ret
  exact ⟨rfl, rfl⟩
/-- Where All stands behind k of them. -/
def oAt (xs : List Int) (k : Nat) : Int := if k < xs.length then 2 * xs.getD k 0 else 0
def prevO (xs : List Int) (k : Nat) : Int := if k = 0 then 0 else 2 * xs.getD (k - 1) 0
theorem ids_at {E : Mem} {k : Nat} (hk : k < (ids E).length) : (ids E).getD k 0 ∈ ids E := by simp only [List.getD, List.getElem?_eq_getElem hk, Option.getD_some]; exact List.getElem_mem _
theorem nam_two {i : Int} (h1 : 1 ≤ i) (h2 : i ≤ 1000000) : namV (2 * i) = i := by
  unfold namV namB
  rw [if_pos (by simp; omega)]
  omega
theorem next_step {E : Mem} (hf : E.length ≤ 1000000) {k : Nat} (hk : k ≤ (ids E).length) : nextN E (prevO (ids E) k) = oAt (ids E) k ∧ nextB E (prevO (ids E) k) = decide (k < (ids E).length) := by
  have hg : ∀ j, j < (ids E).length → 1 ≤ (ids E).getD j 0 ∧ (ids E).getD j 0 ≤ 1000000 := fun j hj => by
    have := ids_rng (ids_at hj)
    omega
  have hn : nxt E (prevO (ids E) k) = (ids E)[k]? := by
    apply from_next
    have h0 : namV (prevO (ids E) k) = if k = 0 then 0 else (ids E).getD (k - 1) 0 := by
      unfold prevO
      by_cases h : k = 0
      · rw [if_pos h, if_pos h]; rfl
      · rw [if_neg h, if_neg h]
        have := hg (k - 1) (by omega)
        exact nam_two this.1 this.2
    rw [h0]
    refine ⟨hk, fun j hj => ?_, fun j hj hj2 => ?_⟩
    · rw [if_neg (by omega)]
      by_cases h : j = k - 1
      · rw [h]; omega
      · have := rise_at (ids_rise E) (i := j) (j := k - 1) (by omega) (by omega)
        omega
    · by_cases h : k = 0
      · rw [if_pos h]
        have := hg j hj2
        omega
      · rw [if_neg h]
        have := rise_at (ids_rise E) (i := k - 1) (j := j) (by omega) hj2
        omega
  unfold nextN nextB oAt
  rw [hn]
  by_cases h : k < (ids E).length
  · rw [if_pos h, List.getElem?_eq_getElem h]
    simp [List.getD, h]
  · rw [if_neg h, List.getElem?_eq_none (by omega)]
    simp [h]
theorem prev_of {xs : List Int} {k : Nat} (hk : k < xs.length) : oAt xs k = prevO xs (k + 1) := by
  unfold oAt prevO
  rw [if_pos hk, if_neg (by omega)]
  simp
theorem take_two {xs : List Int} {k : Nat} (hk : k < xs.length) : ((xs.take (k + 1)).map fun i => 2 * i) = ((xs.take k).map fun i => 2 * i) ++ [oAt xs k] := by
  rw [List.take_succ_eq_append_getElem hk, List.map_append]
  unfold oAt
  rw [if_pos hk]
  simp [List.getD, List.getElem?_eq_getElem hk]
theorem prev_in {E : Mem} (hf : E.length ≤ 1000000) {k : Nat} (hk : k ≤ (ids E).length) : In64 (prevO (ids E) k) := by
  unfold prevO
  by_cases h : k = 0
  · rw [if_pos h]; constructor <;> decide
  · rw [if_neg h]
    have := ids_rng (ids_at (E := E) (k := k - 1) (by omega))
    constructor <;> omega
def twoL (xs : List Int) : List Int := xs.map fun i => 2 * i
set_option maxHeartbeats 4000000 in
theorem all_any {w : World} {K : Nat → Prop} {m : Nat} {E : Mem} (h : MemB K w m E) : Calls Try.prog 19 #[ifM m] w (GaveI (twoL (ids E)) w) := by
  have HN : Hid (∀ wr k, Below w.heap.size w wr → k ≤ (ids E).length → Calls Try.prog 37 #[.pointer (some ⟨m, 0, none⟩), .int .i64 (prevO (ids E) k)] wr fun e w' => e = .returned (.tuple #[.int .i64 (oAt (ids E) k), .bool (decide (k < (ids E).length))]) ∧ wr = w') := Lib.hid fun wr k hb hk => (next_any (h.fresh hb) _ (prev_in h.few hk)).mono fun e w' ⟨he, hw⟩ => by
    rw [(next_step h.few hk).1, (next_step h.few hk).2] at he
    exact ⟨he, hw⟩
  have HL := Lib.hid (Nat.le_trans (ids_le E) h.few)
  clear h
  unfold twoL
  generalize ids E = xs at *
  have HP0 := HN.out w 0 (Below.refl _ _) (Nat.zero_le _)
  rw [show prevO xs 0 = 0 from rfl] at HP0
  have HP := Lib.hid HP0
  clear HP0
  obtain ⟨i0, hi, hz0, hz1, hz2⟩ := info_parts Try.info3
  go_enter Try.func19, Try.ntmps19
  go_wp2_with (go_at_call 47; refine (some_any _ _).mono ?_; rintro e' w1 ⟨rfl, rfl⟩)
  refine HP.out.mono ?_
  rintro e w1 ⟨rfl, rfl⟩
  generalize hb0 : decide (0 < xs.length) = bb
  have HB0 := Lib.hid hb0
  clear hb0
  go_wp2
  go_loopg [3, 4, 5] xs.length (fun g s3 s4 s5 wr => ∃ k : Nat, k ≤ xs.length ∧ s4 = .int .i64 (oAt xs k) ∧ s5 = .bool (decide (k < xs.length)) ∧ wr.ownsRow w.heap.size 3 1 s3 k (((xs.take k).map fun i => 2 * i).map (Value.int .i64)) ∧ Below w.heap.size w wr ∧ xs.length - k ≤ g)
  case atStart => exact ⟨0, Nat.zero_le _, rfl, by rw [HB0.out], World.ownsRow_nil _ _ _ _, Below.refl _ _, by omega⟩
  case round =>
    obtain ⟨k, hk, rfl, rfl, hown, hb, hg⟩ := hrel
    obtain ⟨an, cn, rfl⟩ := own_form hown
    have HB := Lib.hid hb
    have HG := Lib.hid hg
    clear hb hg
    by_cases hkl : k < xs.length
    · have hd : decide (k < xs.length) = true := by simpa using hkl
      have HC : Hid (∀ w3, Below w.heap.size w w3 → Calls Try.prog 37 #[.pointer (some ⟨m, 0, none⟩), .int .i64 (prevO xs (k + 1))] w3 fun e w' => e = .returned (.tuple #[.int .i64 (oAt xs (k + 1)), .bool (decide (k + 1 < xs.length))]) ∧ w3 = w') := Lib.hid fun w3 hb => HN.out w3 (k + 1) hb hkl
      have HT := Lib.hid (take_two hkl)
      rw [← prev_of hkl] at HC
      have hlx := HL.out
      rw [hd]
      clear hd
      generalize oAt xs k = ok at *
      go_wp2_with (at_builtin; refine wpList_append_own_at _ rfl _ _ 30 rfl w.heap.size 3 i0 (.int .i64 0) 1 8 Try.underlying30 hi hz0 hz1 hz2 rfl (by decide) _ _ _ rfl (hown.alloc _) ⟨wr.heap.size, 0, none⟩ 1 1 [.int .i64 ok] rfl rfl ?c1 ?c2 ?c3 ?c4 ?c5 ?_)
      case c1 => exact World.news_of_block (cs := #[.int .i64 ok]) (t := 3) (fr := (0, 0)) (heap_alloc_new wr _)
      case c2 => intro u hu; simp at hu; subst hu; rfl
      case c3 => unfold maxLen; omega
      case c4 => omega
      case c5 => have := HB.out.size; simp; omega
      intro v' w3 hown3 hgr3 hnil3 hat3
      have HB3 : Hid (Below w.heap.size w w3) := Lib.hid ((HB.out.trans ((below_new wr _).mono HB.out.size)).trans (grown_below hgr3 (fun g hg => (hown.lt g hg).1) (Nat.le_trans HB.out.size (by simp))))
      have HO : Hid (w3.ownsRow w.heap.size 3 1 v' (k + 1) (((xs.take (k + 1)).map fun i => 2 * i).map (Value.int .i64))) := by
        refine Lib.hid ?_
        rw [HT.out, List.map_append]
        simpa using hown3
      clear hown3 hgr3 hnil3 hat3 hown
      obtain ⟨an', cn', rfl⟩ := own_form HO.out
      go_wp2_with fail
      refine (HC.out w3 HB3.out).mono ?_
      rintro e w4 ⟨rfl, rfl⟩
      generalize hb1 : decide (k + 1 < xs.length) = b1
      have HB1 := Lib.hid hb1
      clear hb1
      generalize hx1 : oAt xs (k + 1) = o1
      have HX1 := Lib.hid hx1
      clear hx1
      go_wp2
      go_roundg (xs.length - (k + 1))
      case measure => have := HG.out; omega
      case rel => exact ⟨k + 1, by omega, by rw [HX1.out], by rw [HB1.out], HO.out, HB3.out, by omega⟩
    · have hd : decide (k < xs.length) = false := by simpa using hkl
      obtain rfl : k = xs.length := by omega
      rw [hd]
      rw [List.take_length] at hown
      have HO := Lib.hid hown
      clear hown
      go_wp2
      go_ret
      exact ⟨_, rfl, by simpa using HO.out, HB.out⟩
end Go.Proofs.Ytmaeoefimkppoaa.Fl
