/- Texts of the layers below, one behind the other: WNum WMem WKnown WGet WAll WOpen. -/
import Derived.Test.YtccpmaahnfgkeaaGreatDoorRows
import Derived.WalkKit
import Derived.ProofKit
import Derived.OpenShut
import Derived.Handy
import Derived.Lib.Hide
import Derived.Laws.BytesArg
import Derived.Deep.QuietTactic
import Derived.BigQuiet
import Derived.Deep.RegionHeld3
import Derived.RegionTactic
import Derived.Deep.RegionWith

/- What the scalar functions of package word, and of the document's answer, return for every int64: one Lean function each, and both Go functions give it. No condition but that the number is an int64. -/
namespace Go.Proofs.YtccpmaahnfgkeaaGreatDoor.Wd
set_option maxRecDepth 1000000
open Go.RowKit

def smallOk (n : Int) : Bool := decide (-1073741824 ≤ n ∧ n ≤ 1073741823)
def smallV (n : Int) : Int := if smallOk n = true then 2 * n + 1 else 0
def smallE (n : Int) : Int := if smallOk n = true then 0 else 2
def numB (o : Int) : Bool := decide (o % 2 = 1 ∧ -2147483647 ≤ o ∧ o ≤ 2147483647)
def numV (o : Int) : Int := if numB o = true then o / 2 else 0
def namB (o : Int) : Bool := decide (o % 2 = 0 ∧ 2 ≤ o ∧ o ≤ 2147483646)
def namV (o : Int) : Int := if namB o = true then o / 2 else 0
def oopV (n : Int) : Int := if 1 ≤ n ∧ n ≤ 1073741823 then 2 * n else 0
def narB (o : Int) : Bool := decide (o % 2 = 1 ∧ -32767 ≤ o ∧ o ≤ 32767)
def narV (o : Int) : Int := if narB o = true then o % 65536 else 0
def widB (o : Int) : Bool := decide (o % 2 = 1 ∧ 0 ≤ o ∧ o ≤ 65535)
def widV (o : Int) : Int := if widB o = true then (if o < 32768 then o else o - 65536) else 0

theorem ret_ib {a b : Int} {x y : Bool} (h : a = b) (g : x = y) : Ending.returned (.tuple #[.int .i64 a, .bool x]) = .returned (.tuple #[.int .i64 b, .bool y]) := by rw [h, g]
theorem ret_ii {a b x y : Int} (h : a = b) (g : x = y) : Ending.returned (.tuple #[.int .i64 a, .int .i64 x]) = .returned (.tuple #[.int .i64 b, .int .i64 y]) := by rw [h, g]
theorem ret_i {a b : Int} (h : a = b) : Ending.returned (.int .i64 a) = .returned (.int .i64 b) := by rw [h]

theorem num_yes {o : Int} (a : o % 2 = 1) (b : -2147483647 ≤ o) (c : o ≤ 2147483647) : o / 2 = numV o ∧ true = numB o := by
  have h : numB o = true := by simp [numB, a, b, c]
  simp [numV, h]
theorem num_no {o : Int} (a : ¬ (o % 2 = 1 ∧ -2147483647 ≤ o ∧ o ≤ 2147483647)) : 0 = numV o ∧ false = numB o := by
  have h : numB o = false := by simpa [numB] using a
  simp [numV, h]
theorem nam_yes {o : Int} (a : o % 2 = 0) (b : 2 ≤ o) (c : o ≤ 2147483646) : o / 2 = namV o ∧ true = namB o := by
  have h : namB o = true := by simp [namB, a, b, c]
  simp [namV, h]
theorem nam_no {o : Int} (a : ¬ (o % 2 = 0 ∧ 2 ≤ o ∧ o ≤ 2147483646)) : 0 = namV o ∧ false = namB o := by
  have h : namB o = false := by simpa [namB] using a
  simp [namV, h]
theorem small_yes {n : Int} (b : -1073741824 ≤ n) (c : n ≤ 1073741823) : 2 * n + 1 = smallV n ∧ 0 = smallE n := by
  have h : smallOk n = true := by simp [smallOk, b, c]
  simp [smallV, smallE, h]
theorem small_no {n : Int} (a : ¬ (-1073741824 ≤ n ∧ n ≤ 1073741823)) : 0 = smallV n ∧ 2 = smallE n := by
  have h : smallOk n = false := by simpa [smallOk] using a
  simp [smallV, smallE, h]

theorem and_one (n : Int) : bits .and .i64 n 1 = n % 2 := by
  show IntKind.i64.wrap ((BitVec.ofInt 64 n &&& BitVec.ofInt 64 1).toNat : Int) = _
  rw [BitVec.toNat_and]
  have h1 : (BitVec.ofInt 64 1).toNat = 1 := by decide
  rw [h1, Nat.and_one_is_mod, BitVec.toNat_ofInt, IntKind.wrap_i64]
  omega

set_option maxHeartbeats 400000 in
theorem odd_any (n : Int) (w : World) :
    Calls Tryz.prog 97 #[.int .i64 n] w fun e w' => e = .returned (.bool (n % 2 == 1)) ∧ w = w' := by
  go_enter Tryz.func97, Tryz.ntmps97
  go_wp2
  go_ret
  exact ⟨congrArg (fun x : Int => Ending.returned (.bool (x == 1))) (and_one n), rfl⟩

set_option maxHeartbeats 400000 in
theorem number_any (o : Int) (w : World) (h1 : -9223372036854775808 ≤ o) (h2 : o ≤ 9223372036854775807) :
    Calls Tryz.prog 109 #[.int .i64 o] w fun e w' => e = .returned (.tuple #[.int .i64 (numV o), .bool (numB o)]) ∧ w = w' := by
  go_enter Tryz.func109, Tryz.ntmps109
  go_wp2_with (go_at_call 97; refine (odd_any _ _).mono ?_; rintro e w' ⟨rfl, rfl⟩)
  all_goals go_ret2
  all_goals first
    | exact ⟨ret_ib (num_yes (by omega) (by omega) (by omega)).1 (num_yes (by omega) (by omega) (by omega)).2, rfl⟩
    | exact ⟨ret_ib (num_no (by omega)).1 (num_no (by omega)).2, rfl⟩

theorem tmod2_even {o : Int} (h : o % 2 = 0) : o.tmod 2 = 0 := by
  rw [Int.tmod_eq_emod]; split <;> omega
theorem tmod2_odd {o : Int} (h : o % 2 = 1) : (o.tmod 2 == 0) = false := by
  rw [beq_eq_false_iff_ne, Int.tmod_eq_emod]; split <;> omega
theorem tdiv2_odd {o : Int} (h : o % 2 = 1) : (o - 1).tdiv 2 = o / 2 := by
  rw [Int.tdiv_eq_ediv]; split <;> omega

set_option maxHeartbeats 400000 in
theorem named_any (o : Int) (w : World) (h1 : -9223372036854775808 ≤ o) (h2 : o ≤ 9223372036854775807) :
    Calls Tryz.prog 75 #[.int .i64 o] w fun e w' => e = .returned (.tuple #[.int .i64 (namV o), .bool (namB o)]) ∧ w = w' := by
  by_cases hs : 0 ≤ o
  · by_cases hp : o % 2 = 1
    · have hb : (o % 2 == 1) = true := by simp [hp]
      go_enter Tryz.func75, Tryz.ntmps75
      go_wp2_with (go_at_call 97; refine (odd_any _ _).mono ?_; rintro e w' ⟨rfl, rfl⟩)
      all_goals go_ret2
      all_goals exact ⟨ret_ib (nam_no (by omega)).1 (nam_no (by omega)).2, rfl⟩
    · have hb : (o % 2 == 1) = false := by simp [hp]
      go_enter Tryz.func75, Tryz.ntmps75
      go_wp2_with (go_at_call 97; refine (odd_any _ _).mono ?_; rintro e w' ⟨rfl, rfl⟩)
      all_goals go_ret2
      all_goals first
        | exact ⟨ret_ib (nam_yes (by omega) (by omega) (by omega)).1 (nam_yes (by omega) (by omega) (by omega)).2, rfl⟩
        | exact ⟨ret_ib (nam_no (by omega)).1 (nam_no (by omega)).2, rfl⟩
  · have ht : o.tdiv 2 ≤ 0 := by
      have h3 : Int.sign 2 = 1 := rfl
      rw [Int.tdiv_eq_ediv]; split <;> omega
    go_enter Tryz.func75, Tryz.ntmps75
    go_wp2_with (go_at_call 97; refine (odd_any _ _).mono ?_; rintro e w' ⟨rfl, rfl⟩)
    all_goals go_ret2
    all_goals exact ⟨ret_ib (nam_no (by omega)).1 (nam_no (by omega)).2, rfl⟩

theorem tmod2_neq {o : Int} (h : o % 2 = 1) : (o.tmod 2 != 0) = true := by
  rw [bne_iff_ne, ne_eq, Int.tmod_eq_emod]; split <;> omega

set_option maxHeartbeats 400000 in
theorem named_ref (o : Int) (w : World) (h1 : -9223372036854775808 ≤ o) (h2 : o ≤ 9223372036854775807) :
    Calls Tryz.prog 78 #[.int .i64 o] w fun e w' => e = .returned (.tuple #[.int .i64 (namV o), .bool (namB o)]) ∧ w = w' := by
  by_cases hp : o % 2 = 0
  · have ht := tmod2_even hp
    go_enter Tryz.func78, Tryz.ntmps78
    go_wp2
    all_goals go_ret2
    all_goals first
      | exact ⟨ret_ib (nam_yes (by omega) (by omega) (by omega)).1 (nam_yes (by omega) (by omega) (by omega)).2, rfl⟩
      | exact ⟨ret_ib (nam_no (by omega)).1 (nam_no (by omega)).2, rfl⟩
  · have ht := tmod2_neq (o := o) (by omega)
    go_enter Tryz.func78, Tryz.ntmps78
    go_wp2
    all_goals go_ret2
    all_goals exact ⟨ret_ib (nam_no (by omega)).1 (nam_no (by omega)).2, rfl⟩

theorem oop_yes {n : Int} (a : 1 ≤ n) (b : n ≤ 1073741823) : 2 * n = oopV n := by simp [oopV, a, b]
theorem oop_no {n : Int} (a : ¬ (1 ≤ n ∧ n ≤ 1073741823)) : 0 = oopV n := by simp [oopV, a]

theorem nar_yes {o : Int} (a : o % 2 = 1) (b : -32767 ≤ o) (c : o ≤ 32767) : o % 65536 = narV o ∧ true = narB o := by
  have h : narB o = true := by simp [narB, a, b, c]
  simp [narV, h]
theorem nar_no {o : Int} (a : ¬ (o % 2 = 1 ∧ -32767 ≤ o ∧ o ≤ 32767)) : 0 = narV o ∧ false = narB o := by
  have h : narB o = false := by simpa [narB] using a
  simp [narV, h]
theorem number_yes (o : Int) (w : World) (a : o % 2 = 1) (b : -2147483647 ≤ o) (c : o ≤ 2147483647) :
    Calls Tryz.prog 109 #[.int .i64 o] w fun e w' => e = .returned (.tuple #[.int .i64 (o / 2), .bool true]) ∧ w = w' := by
  have h := number_any o w (by omega) (by omega)
  rw [← (num_yes a b c).1, ← (num_yes a b c).2] at h; exact h
theorem number_no (o : Int) (w : World) (h1 : -9223372036854775808 ≤ o) (h2 : o ≤ 9223372036854775807) (a : ¬ (o % 2 = 1 ∧ -2147483647 ≤ o ∧ o ≤ 2147483647)) :
    Calls Tryz.prog 109 #[.int .i64 o] w fun e w' => e = .returned (.tuple #[.int .i64 0, .bool false]) ∧ w = w' := by
  have h := number_any o w h1 h2
  rw [← (num_no a).1, ← (num_no a).2] at h; exact h
theorem and_15 (n : Int) : bits .and .i64 n 32767 = n % 32768 := by
  show IntKind.i64.wrap ((BitVec.ofInt 64 n &&& BitVec.ofInt 64 32767).toNat : Int) = _
  rw [BitVec.toNat_and]
  have h1 : (BitVec.ofInt 64 32767).toNat = 2 ^ 15 - 1 := by decide
  rw [h1, Nat.and_two_pow_sub_one_eq_mod, BitVec.toNat_ofInt, IntKind.wrap_i64]
  omega

theorem wid_lo {o : Int} (a : o % 2 = 1) (b : 0 ≤ o) (c : o ≤ 32767) : o = widV o ∧ true = widB o := by
  have h : widB o = true := by simp [widB]; omega
  have h' : o < 32768 := by omega
  simp [widV, h, h']
theorem wid_hi {o : Int} (a : o % 2 = 1) (b : 32768 ≤ o) (c : o ≤ 65535) : o - 65536 = widV o ∧ true = widB o := by
  have h : widB o = true := by simp [widB]; omega
  have h' : ¬ o < 32768 := by omega
  simp [widV, h, h']
theorem wid_no {o : Int} (a : ¬ (o % 2 = 1 ∧ 0 ≤ o ∧ o ≤ 65535)) : 0 = widV o ∧ false = widB o := by
  have h : widB o = false := by simpa [widB] using a
  simp [widV, h]

end Go.Proofs.YtccpmaahnfgkeaaGreatDoor.Wd

/- What the functions of package word that make bytes, and the comparison of two rows of bytes, do: what they return and that nothing that lay in memory before has changed. No condition but those that each statement names. -/
namespace Go.Proofs.YtccpmaahnfgkeaaGreatDoor.Wd
set_option maxRecDepth 1000000
open Go.RowKit

/-- The slice value v reads, in the world w, as the bytes xs. -/
def Bts (w : World) (v : Value) (xs : List Int) : Prop :=
  ∃ a c, v = .slice a xs.length c ∧ (xs = [] ∨ ∃ b off, a = some ⟨b, off, none⟩ ∧ ∀ i, i < xs.length → w.cell? ⟨b, off + i, none⟩ = some (.int .u8 (xs.getD i 0)))

theorem conv_bts {w : World} {v : Value} {xs : List Int} (h : Bts w v xs) : (convert 33 9 v).run Tryz.prog w = .ok (.string (strOfNums xs)) w := by
  obtain ⟨a, c, rfl, h⟩ := h
  rcases h with rfl | ⟨b, off, rfl, h⟩
  · rcases a with _ | a
    · exact run_convert_bytes_nil w 33 5 Tryz.underlying33 Tryz.underlying5 _ _ 9 Tryz.underlying9
    · rw [run_convert_bytes_string w 33 9 5 _ _ c Tryz.underlying33 Tryz.underlying5 Tryz.underlying9]
      exact run_bytesToString w a 0 c [] rfl
  · exact run_convert_bytes_arg w 33 5 Tryz.underlying33 Tryz.underlying5 b off _ c xs rfl h 9 Tryz.underlying9

theorem same_eq (v1 v2 : Value) (xs : List Int) (w : World) (h1 : Bts w v1 xs) (h2 : Bts w v2 xs) :
    Calls Tryz.prog 35 #[v1, v2] w fun e w' => e = .returned (.bool true) ∧ w = w' := by
  have c1 := conv_bts h1
  have c2 := conv_bts h2
  go_enter Tryz.func35, Tryz.ntmps35
  go_wp2
  go_ret
  exact ⟨rfl, rfl⟩

theorem Tryz.info5 : (Tryz.prog.info? 5).map (fun i => (i.zero, i.size, i.bytes)) = some (some (.int .u8 0), 1, 1) := by kernel_rfl

/-- Byte number i of the four bytes of the word o, the greatest first. -/
def byt (o : Int) (i : Nat) : Int := o / 2 ^ (8 * (3 - i)) % 256
def byts (o : Int) (k : Nat) : List Int := (List.range k).map (byt o)
theorem byts_succ (o : Int) (k : Nat) : byts o (k + 1) = byts o k ++ [byt o k] := by simp [byts, List.range_succ]
theorem byts_len (o : Int) (k : Nat) : (byts o k).length = k := by simp [byts]

def Wrote (base : Nat) (w : World) (xs : List Int) (e : Ending) (w' : World) : Prop :=
  ∃ v, e = .returned v ∧ w'.ownsRow base 5 1 v xs.length (xs.map (Value.int .u8)) ∧ Below base w w'

theorem wrote_step {base k : Nat} {xs : List Int} (o : Int) {w wr w1 : World} {u v' : Value} {ob : Obj} (hb : base ≤ w.heap.size)
    (hown : wr.ownsRow base 5 1 u (xs ++ byts o k).length ((xs ++ byts o k).map (Value.int .u8))) (hnx : Below base w wr)
    (hown' : w1.ownsRow base 5 1 v' ((xs ++ byts o k).length + 1) ((xs ++ byts o k).map (Value.int .u8) ++ [.int .u8 (byt o k)])) (hgrow : (wr.alloc ob).grownBy w1 u.ownBlock) :
    w1.ownsRow base 5 1 v' (xs ++ byts o (k + 1)).length ((xs ++ byts o (k + 1)).map (Value.int .u8)) ∧ Below base w w1 := by
  have hz := hnx.size
  refine ⟨?_, (hnx.alloc (by omega) ob).grown hgrow (by simp; omega) fun g hg => (hown.lt g hg).1⟩
  have e1 : (xs ++ byts o (k + 1)).length = (xs ++ byts o k).length + 1 := by simp [byts_len]; omega
  have e2 : (xs ++ byts o (k + 1)).map (Value.int .u8) = (xs ++ byts o k).map (Value.int .u8) ++ [.int .u8 (byt o k)] := by simp [byts_succ]
  rw [e1, e2]; exact hown'

set_option maxHeartbeats 800000 in
set_option maxRecDepth 1000000 in
theorem write_any (base : Nat) (v : Value) (xs : List Int) (o : Int) (w : World) (hx : xs.length ≤ 1000000)
    (hb : base ≤ w.heap.size) (hown : w.ownsRow base 5 1 v xs.length (xs.map (Value.int .u8))) :
    Calls Tryz.prog 82 #[v, .int .i64 o] w (Wrote base w (xs ++ byts o 4)) := by
  obtain ⟨i0, hi, hz0, hz1, hz2⟩ := info_parts Tryz.info5
  go_enter Tryz.func82, Tryz.ntmps82
  go_wp2
  go_loopw [0, 6] (fun v i wr => ∃ k : Nat, k ≤ 4 ∧ i = .int .i64 k ∧ wr.ownsRow base 5 1 v (xs ++ byts o k).length ((xs ++ byts o k).map (Value.int .u8)) ∧ Below base w wr)
    (fun _ i _ => 4 - (intOf i).toNat)
  case atStart => exact ⟨0, by omega, rfl, by simpa [byts] using hown, Below.refl _ _⟩
  case round =>
    obtain ⟨k, hk, rfl, hown, hnx⟩ := hrel
    by_cases hlt : k < 4
    · have hlt' : (k : Int) < 4 := by omega
      have hl : (xs ++ byts o k).length = xs.length + k := by simp [byts_len]
      have HL := Lib.hid hl
      clear hl
      go_wp2_with (at_builtin; refine wpList_append_own _ rfl _ _ 33 rfl base 5 i0 (.int .u8 0) 1 1 Tryz.underlying33 hi hz0 hz1 hz2 rfl (by decide) _ _ _ rfl (hown.alloc _) ⟨wr.heap.size, 0, none⟩ 1 1 [.int .u8 (byt o k)] rfl rfl ?c1 ?c2 ?c3 ?c4 ?c5 ?_)
      case c1 =>
        intro j u hj
        match j, hj with
        | 0, hj => simp at hj; subst hj; simp [Addr.add, byt]
      case c2 => intro u hu; simp at hu; subst hu; rfl
      case c3 => have := HL.out; unfold maxLen; omega
      case c4 => have := HL.out; omega
      case c5 => have := hnx.size; simp; omega
      intro v' w1 hown' hgrow _
      have R := wrote_step (v' := v') o hb hown hnx (by simpa using hown') hgrow
      clear hown' hgrow hown
      go_wp2
      go_roundw
      case rel => exact ⟨k + 1, by omega, by go_num, R.1, R.2⟩
      case measure => simp [intOf]; omega
    · go_wp2
      go_ret
      have : k = 4 := by omega
      subst this
      exact ⟨_, rfl, hown, hnx⟩

theorem mk4 (w : World) : (Instr.makeSlice 33 (.int .i64 0) (.int .i64 4)).run Tryz.prog w = .ok (.slice (some ⟨w.heap.size, 0, none⟩) 0 4) (w.alloc (.cells (madeCells (Value.int .u8 0).cells 4) 5)) := by
  obtain ⟨i0, hi, hz0, hz1, hz2⟩ := info_parts Tryz.info5
  have h := run_make (P := Tryz.prog) w 33 5 i0 (.int .u8 0) Tryz.underlying33 hi hz0 .i64 .i64 0 4 (by omega) (by omega) (by rw [hz2]; decide) (by omega)
  rw [hz1] at h
  exact h

end Go.Proofs.YtccpmaahnfgkeaaGreatDoor.Wd

/- 'known', the chapter's examples: it returns true, and nothing that lay in memory before has changed. No condition. -/
namespace Go.Proofs.YtccpmaahnfgkeaaGreatDoor.Wd
set_option maxRecDepth 1000000
open Go.RowKit

theorem wf_i64 {n : Int} (h : (Lit.int .i64 n).wf = true) : -9223372036854775808 ≤ n ∧ n ≤ 9223372036854775807 := by
  have h1 : IntKind.i64.min = -9223372036854775808 := rfl
  have h2 : IntKind.i64.max = 9223372036854775807 := rfl
  simp only [Lit.wf, Bool.and_eq_true, decide_eq_true_eq] at h
  omega

theorem own_bts {w : World} {base : Nat} {v : Value} {xs : List Int} (h : w.ownsRow base 5 1 v xs.length (xs.map (Value.int .u8))) : Bts w v xs := by
  rcases h.2 with ⟨rfl, hn⟩ | ⟨g, cap, cur, rfl, _, hg, hnc, _, hcs, htake⟩
  · obtain rfl : xs = [] := List.eq_nil_of_length_eq_zero hn
    exact ⟨none, 0, rfl, .inl rfl⟩
  · refine ⟨_, cap, rfl, .inr ⟨g, 0, rfl, fun i hi => ?_⟩⟩
    have hc := h.cells (g := g) rfl i (.int .u8 (xs.getD i 0)) (by simp [List.getElem?_eq_getElem hi, List.getD])
    have ha : (⟨g, 0, none⟩ : Addr).add i = ⟨g, 0 + i, none⟩ := by unfold Addr.add; split <;> simp_all
    rw [ha] at hc
    exact hc

theorem named_6 (w : World) : Calls Tryz.prog 75 #[.int .i64 6] w fun e w' => e = .returned (.tuple #[.int .i64 3, .bool true]) ∧ w = w' := named_any 6 w (by decide) (by decide)
theorem lit_bts (w : World) : Bts (w.alloc (.cells #[.int .u8 0, .int .u8 0, .int .u8 1, .int .u8 2] 5)) (.slice (some ⟨w.heap.size, 0, none⟩) 4 4) [0, 0, 1, 2] := by
  refine ⟨_, _, rfl, .inr ⟨_, _, rfl, fun i hi => ?_⟩⟩
  rw [World.cell?_alloc_at _ _ _ _ rfl]
  match i, hi with
  | 0, _ => rfl
  | 1, _ => rfl
  | 2, _ => rfl
  | 3, _ => rfl

end Go.Proofs.YtccpmaahnfgkeaaGreatDoor.Wd

/- What word.Get and the chapter's Get return: the word that stands at a place in a row of bytes, or the error. -/
namespace Go.Proofs.YtccpmaahnfgkeaaGreatDoor.Wd
set_option maxRecDepth 1000000
open Go.RowKit

def getOk (n : Nat) (at_ : Int) : Bool := decide (0 ≤ at_ ∧ at_ + 4 ≤ n)
/-- The first k bytes from place p on, as one number. -/
def acc (xs : List Int) (p : Nat) : Nat → Int
  | 0 => 0
  | k + 1 => acc xs p k * 256 + xs.getD (p + k) 0
def sgn (n : Int) : Int := if n < 2147483648 then n else n - 4294967296
def getV (xs : List Int) (at_ : Int) : Int := if getOk xs.length at_ = true then sgn (acc xs at_.toNat 4) else 0
def getE (xs : List Int) (at_ : Int) : Int := if getOk xs.length at_ = true then 0 else 2
def Bytes (xs : List Int) : Prop := ∀ i : Nat, 0 ≤ xs.getD i 0 ∧ xs.getD i 0 ≤ 255

theorem acc_le {xs : List Int} (h : Bytes xs) (p k : Nat) : 0 ≤ acc xs p k ∧ acc xs p k < 256 ^ k := by
  induction k with
  | zero => simp [acc]
  | succ k ih =>
    have := h (p + k)
    have e : (256 : Int) ^ (k + 1) = 256 ^ k * 256 := Int.pow_succ ..
    simp only [acc]
    rw [e]
    omega

theorem or_add (x b : Int) (hx : 0 ≤ x) (hx' : x < 16777216) (hb : 0 ≤ b) (hb' : b ≤ 255) : bits .or .u32 (x * 256) b = x * 256 + b := by
  obtain ⟨m, rfl⟩ := Int.eq_ofNat_of_zero_le hx
  obtain ⟨c, rfl⟩ := Int.eq_ofNat_of_zero_le hb
  show IntKind.u32.wrap ((BitVec.ofInt 32 ((m : Int) * 256) ||| BitVec.ofInt 32 (c : Int)).toNat : Int) = _
  rw [BitVec.toNat_or, BitVec.toNat_ofInt, BitVec.toNat_ofInt, IntKind.wrap_u32]
  have e1 : ((m : Int) * 256 % (2 ^ 32 : Nat)).toNat = 2 ^ 8 * m := by omega
  have e2 : ((c : Int) % (2 ^ 32 : Nat)).toNat = c := by omega
  rw [e1, e2, ← Nat.two_pow_add_eq_or_of_lt (by omega : c < 2 ^ 8)]
  omega

theorem get_no' {xs : List Int} {at_ : Int} (h : ¬ (0 ≤ at_ ∧ at_ + 4 ≤ xs.length)) : 0 = getV xs at_ ∧ 2 = getE xs at_ := by
  have h' : getOk xs.length at_ = false := by simpa [getOk] using h
  simp [getV, getE, h']
theorem get_yes' {xs : List Int} {p : Nat} (h : p + 4 ≤ xs.length) : sgn (acc xs p 4) = getV xs p ∧ 0 = getE xs p := by
  have h' : getOk xs.length p = true := by simp [getOk]; omega
  simp [getV, getE, h']

set_option maxHeartbeats 800000 in
theorem get_no (v : Value) (xs : List Int) (at_ : Int) (w : World) (hb : Bts w v xs) (hl : xs.length ≤ 1000000)
    (h1 : -9223372036854775808 ≤ at_) (h2 : at_ ≤ 9223372036854775807) (h : ¬ (0 ≤ at_ ∧ at_ + 4 ≤ xs.length)) :
    Calls Tryz.prog 92 #[v, .int .i64 at_] w fun e w' => e = .returned (.tuple #[.int .i64 0, .int .i64 2]) ∧ w = w' := by
  obtain ⟨a, c, rfl, _⟩ := hb
  by_cases hn : at_ < 0
  · clear h
    go_enter Tryz.func92, Tryz.ntmps92
    go_wp2
    go_ret2
    exact ⟨rfl, rfl⟩
  · have hc : (xs.length : Int) - 4 < at_ := by omega
    clear h
    go_enter Tryz.func92, Tryz.ntmps92
    go_wp2
    go_ret2
    exact ⟨rfl, rfl⟩

set_option maxHeartbeats 800000 in
set_option maxRecDepth 1000000 in
theorem get_yes (v : Value) (xs : List Int) (p : Nat) (w : World) (hb : Bts w v xs) (hx : Bytes xs) (hl : xs.length ≤ 1000000) (h : p + 4 ≤ xs.length) :
    Calls Tryz.prog 92 #[v, .int .i64 p] w fun e w' => e = .returned (.tuple #[.int .i64 (sgn (acc xs p 4)), .int .i64 0]) ∧ w = w' := by
  obtain ⟨a, c, rfl, hb⟩ := hb
  rcases hb with rfl | ⟨b, off, rfl, hcell⟩
  · simp at h
  have HC := Lib.hid hcell
  clear hcell
  have hc : (p : Int) ≤ (xs.length : Int) - 4 := by omega
  go_enter Tryz.func92, Tryz.ntmps92
  go_wp2
  go_loop [6, 17] (fun n i => ∃ k : Nat, k ≤ 4 ∧ i = .int .i64 k ∧ n = .int .u32 (acc xs p k)) (fun _ i => 4 - (intOf i).toNat)
  case atStart => exact ⟨0, by omega, rfl, rfl⟩
  case round =>
    obtain ⟨k, hk, rfl, rfl⟩ := hrel
    have hcl : k < 4 → w.cell? ⟨b, off + (p + k), none⟩ = some (.int .u8 (xs.getD (p + k) 0)) := fun hk => HC.out _ (by omega)
    have ha := acc_le hx p k
    have hx' := hx (p + k)
    by_cases hlt : k < 4
    · have hcl' := hcl hlt
      clear hcl
      have hpow : (256 : Int) ^ k ≤ 16777216 := by
        have : k = 0 ∨ k = 1 ∨ k = 2 ∨ k = 3 := by omega
        rcases this with rfl | rfl | rfl | rfl <;> decide
      have ho := or_add (acc xs p k) (xs.getD (p + k) 0) ha.1 (by omega) hx'.1 hx'.2
      have a1 := ha.1
      have a2 : acc xs p k < 16777216 := by omega
      clear ha hpow
      have HO := Lib.hid ho
      clear ho
      go_wp2
      refine ⟨⟨k + 1, by omega, by go_num, congrArg (Value.int .u32) ?_⟩, by simp [intOf]; omega⟩
      have e : xs[p + k]?.getD 0 % 4294967296 = xs.getD (p + k) 0 := by
        have e1 : xs[p + k]?.getD 0 = xs.getD (p + k) 0 := by simp [List.getD]
        rw [e1]; omega
      rw [e, HO.out]; rfl
    · clear hcl
      have : k = 4 := by omega
      subst this
      have a1 := ha.1
      have a2 : acc xs p 4 < 4294967296 := by have := ha.2; omega
      clear ha
      go_wp2
      go_ret2
      exact ⟨ret_ii (by unfold sgn wrap64 wrap32; split <;> omega) rfl, rfl⟩

theorem get_any (v : Value) (xs : List Int) (at_ : Int) (w : World) (hb : Bts w v xs) (hx : Bytes xs) (hl : xs.length ≤ 1000000)
    (h1 : -9223372036854775808 ≤ at_) (h2 : at_ ≤ 9223372036854775807) :
    Calls Tryz.prog 92 #[v, .int .i64 at_] w fun e w' => e = .returned (.tuple #[.int .i64 (getV xs at_), .int .i64 (getE xs at_)]) ∧ w = w' := by
  by_cases h : 0 ≤ at_ ∧ at_ + 4 ≤ xs.length
  · obtain ⟨p, rfl⟩ := Int.eq_ofNat_of_zero_le h.1
    rw [← (get_yes' (xs := xs) (p := p) (by omega)).1, ← (get_yes' (xs := xs) (p := p) (by omega)).2]
    exact get_yes v xs p w hb hx hl (by omega)
  · rw [← (get_no' h).1, ← (get_no' h).2]
    exact get_no v xs at_ w hb hl h1 h2 h

end Go.Proofs.YtccpmaahnfgkeaaGreatDoor.Wd

/- What word.All, and the chapter's Put and All, return: the bytes of the words, one behind the other, in new memory. -/
namespace Go.Proofs.YtccpmaahnfgkeaaGreatDoor.Wd
set_option maxRecDepth 1000000
open Go.RowKit

/-- The slice value v reads, in the world w, as the numbers ls. -/
def Ints (w : World) (v : Value) (ls : List Int) : Prop :=
  ∃ a c, v = .slice a ls.length c ∧ (ls = [] ∨ ∃ b off, a = some ⟨b, off, none⟩ ∧ ∀ i, i < ls.length → w.cell? ⟨b, off + i, none⟩ = some (.int .i64 (ls.getD i 0)))
def allB (ls : List Int) : List Int := ls.flatMap fun o => byts o 4
theorem allB_len (ls : List Int) : (allB ls).length = 4 * ls.length := by
  induction ls with
  | nil => rfl
  | cons o r ih => simp [allB, byts_len] at ih ⊢; omega
theorem allB_snoc (ls : List Int) (k : Nat) (h : k < ls.length) : allB (ls.take (k + 1)) = allB (ls.take k) ++ byts (ls.getD k 0) 4 := by
  have e : ls.getD k 0 = ls[k] := by simp [List.getD, List.getElem?_eq_getElem h]
  rw [List.take_succ_eq_append_getElem h, e]
  unfold allB
  rw [List.flatMap_append, List.flatMap_singleton]

theorem byt_lt (o : Int) (i : Nat) : 0 ≤ byt o i ∧ byt o i ≤ 255 := by unfold byt; omega
theorem byts_Bytes (o : Int) (k : Nat) : Bytes (byts o k) := by
  intro i
  by_cases h : i < k
  · have : (byts o k).getD i 0 = byt o i := by simp [byts, List.getD, h]
    rw [this]; exact byt_lt o i
  · have : (byts o k).getD i 0 = 0 := by simp [byts, List.getD, h]
    rw [this]; omega

theorem byts4 (o : Int) : byts o 4 = [o % 4294967296 / 16777216, o % 4294967296 / 65536 % 256, o % 4294967296 / 256 % 256, o % 256] := by
  have e : byts o 4 = [byt o 0, byt o 1, byt o 2, byt o 3] := rfl
  rw [e]
  simp only [byt]
  congr 1
  · show o / 16777216 % 256 = _; omega
  congr 1
  · show o / 65536 % 256 = _; omega
  congr 1
  · show o / 256 % 256 = _; omega
  congr 1
  · show o / 1 % 256 = _; omega

theorem own_lit (w : World) (a b c d : Int) : (w.alloc (.cells #[.int .u8 a, .int .u8 b, .int .u8 c, .int .u8 d] 5)).ownsRow w.heap.size 5 1 (.slice (some ⟨w.heap.size, 0, none⟩) 4 4) 4 ([a, b, c, d].map (Value.int .u8)) :=
  ⟨rfl, .inr ⟨w.heap.size, 4, _, rfl, Nat.le_refl _, heap_alloc_new w _, by omega, by decide, rfl, rfl⟩⟩

set_option maxHeartbeats 800000 in
theorem put_ref (o : Int) (w : World) :
    Calls Tryz.prog 56 #[.int .i64 o] w (Wrote w.heap.size w (byts o 4)) := by
  have h1 : 0 ≤ o % 4294967296 := by omega
  have h2 : o % 4294967296 < 4294967296 := by omega
  go_enter Tryz.func56, Tryz.ntmps56
  go_wp2
  go_ret
  refine ⟨_, rfl, ?_, (Below.refl _ _).alloc (Nat.le_refl _) _⟩
  rw [byts4]
  exact own_lit w _ _ _ _

theorem Ints.kept {w w' : World} {v : Value} {ls : List Int} (h : Ints w v ls) (hb : Below w.heap.size w w') : Ints w' v ls := by
  obtain ⟨a, c, rfl, h⟩ := h
  refine ⟨a, c, rfl, ?_⟩
  rcases h with h | ⟨b, off, rfl, h⟩
  · exact .inl h
  · exact .inr ⟨b, off, rfl, fun i hi => (hb.cell (World.block_lt_of_cell? _ _ (h i hi))).trans (h i hi)⟩
theorem Bts.kept {w w' : World} {v : Value} {ls : List Int} (h : Bts w v ls) (hb : Below w.heap.size w w') : Bts w' v ls := by
  obtain ⟨a, c, rfl, h⟩ := h
  refine ⟨a, c, rfl, ?_⟩
  rcases h with h | ⟨b, off, rfl, h⟩
  · exact .inl h
  · exact .inr ⟨b, off, rfl, fun i hi => (hb.cell (World.block_lt_of_cell? _ _ (h i hi))).trans (h i hi)⟩
theorem Ints.at_ {w : World} {v : Value} {ls : List Int} {k : Nat} (h : Ints w v ls) (hk : k < ls.length) :
    ∃ b off c, v = .slice (some ⟨b, off, none⟩) ls.length c ∧ w.cell? ⟨b, off + k, none⟩ = some (.int .i64 (ls.getD k 0)) := by
  obtain ⟨a, c, rfl, h⟩ := h
  rcases h with rfl | ⟨b, off, rfl, h⟩
  · simp at hk
  · exact ⟨b, off, c, rfl, h k hk⟩

theorem mk4n (w : World) (n : Nat) (hn : n ≤ 100000) : (Instr.makeSlice 33 (.int .i64 0) (.int .i64 (4 * (n : Int)))).run Tryz.prog w = .ok (.slice (some ⟨w.heap.size, 0, none⟩) 0 (4 * n)) (w.alloc (.cells (madeCells (Value.int .u8 0).cells (4 * n)) 5)) := by
  obtain ⟨i0, hi, hz0, hz1, hz2⟩ := info_parts Tryz.info5
  have h := run_make (P := Tryz.prog) w 33 5 i0 (.int .u8 0) Tryz.underlying33 hi hz0 .i64 .i64 0 (4 * (n : Int)) (by omega) (by omega) (by rw [hz2]; omega) (by omega)
  rw [hz1, Nat.mul_one, show (4 * (n : Int)).toNat = 4 * n by omega] at h
  exact h

set_option maxHeartbeats 800000 in
set_option maxRecDepth 1000000 in
theorem all_any (v : Value) (ls : List Int) (w : World) (hv : Ints w v ls) (hl : ls.length ≤ 1000) :
    Calls Tryz.prog 50 #[v] w (Wrote w.heap.size w (allB ls)) := by
  have hm := mk4n w ls.length (by omega)
  obtain ⟨a, c, rfl, hv⟩ := hv
  have hl' : (ls.length : Int) ≤ 1000 := by omega
  go_enter Tryz.func50, Tryz.ntmps50
  go_wp2
  clear hm
  go_loopw [3, 12] (fun r i wr => ∃ k : Nat, k ≤ ls.length ∧ i = .int .i64 k ∧ wr.ownsRow w.heap.size 5 1 r (allB (ls.take k)).length ((allB (ls.take k)).map (Value.int .u8)) ∧ Below w.heap.size w wr)
    (fun _ i _ => ls.length - (intOf i).toNat)
  case atStart => exact ⟨0, by omega, rfl, World.ownsRow_made w _ (4 * ls.length) (Nat.le_refl _) (by unfold maxLen; omega) (by simp [size_madeCells]), (Below.refl _ _).alloc (Nat.le_refl _) _⟩
  case round =>
    obtain ⟨k, hk, rfl, hown, hnx⟩ := hrel
    by_cases hlt : k < ls.length
    · rcases hv with rfl | ⟨b, off, rfl, hcell⟩
      · simp at hlt
      have hc := hcell k hlt
      have hc' : wr.cell? ⟨b, off + k, none⟩ = some (.int .i64 (ls.getD k 0)) := (hnx.cell (World.block_lt_of_cell? _ _ hc)).trans hc
      have HC := Lib.hid hcell
      clear hcell hc
      have hlen : (allB (ls.take k)).length ≤ 4000 := by rw [allB_len, List.length_take]; omega
      have hsz := hnx.size
      have HS := Lib.hid (allB_snoc ls k hlt)
      have eg : ls.getD k 0 = ls[k] := by simp [List.getD, List.getElem?_eq_getElem hlt]
      have EG := Lib.hid eg
      clear eg
      go_wp2_with fail
      refine (write_any w.heap.size u3 (allB (ls.take k)) _ wr (by omega) hsz hown).mono ?_
      rintro e w1 ⟨v', rfl, hown', hb'⟩
      rw [← EG.out, ← HS.out] at hown'
      have hn1 := hnx.trans hb'
      clear hown hc'
      go_wp2
      go_roundw
      case rel => exact ⟨k + 1, by omega, by go_num, hown', hn1⟩
      case measure => simp [intOf]; omega
    · have e : k = ls.length := by omega
      go_wp2
      go_ret
      refine ⟨_, rfl, ?_, hnx⟩
      rw [List.take_of_length_le (by omega)] at hown
      exact hown

theorem own_form4 {w : World} {base : Nat} {v : Value} {xs : List Value} (h : w.ownsRow base 5 1 v 4 xs) : ∃ g c, v = .slice (some ⟨g, 0, none⟩) 4 c ∧ base ≤ g := by
  rcases h.2 with ⟨_, h0⟩ | ⟨g, cap, cur, rfl, hb, _⟩
  · cases h0
  · exact ⟨g, cap, rfl, hb⟩

set_option maxHeartbeats 800000 in
set_option maxRecDepth 1000000 in
theorem all_ref (v : Value) (ls : List Int) (w : World) (hv : Ints w v ls) (hl : ls.length ≤ 1000) :
    Calls Tryz.prog 57 #[v] w (Wrote w.heap.size w (allB ls)) := by
  obtain ⟨i0, hi, hz0, hz1, hz2⟩ := info_parts Tryz.info5
  obtain ⟨a, c, rfl, hv⟩ := hv
  have hl' : (ls.length : Int) ≤ 1000 := by omega
  go_enter Tryz.func57, Tryz.ntmps57
  go_wp2
  go_loopw [3, 4] (fun r i wr => ∃ k : Nat, k ≤ ls.length ∧ i = .int .i64 k ∧ wr.ownsRow w.heap.size 5 1 r (allB (ls.take k)).length ((allB (ls.take k)).map (Value.int .u8)) ∧ Below w.heap.size w wr)
    (fun _ i _ => ls.length - (intOf i).toNat)
  case atStart => exact ⟨0, by omega, rfl, World.ownsRow_nil _ _ _ _, Below.refl _ _⟩
  case round =>
    obtain ⟨k, hk, rfl, hown, hnx⟩ := hrel
    by_cases hlt : k < ls.length
    · rcases hv with rfl | ⟨b, off, rfl, hcell⟩
      · simp at hlt
      have hc := hcell k hlt
      have hc' : wr.cell? ⟨b, off + k, none⟩ = some (.int .i64 (ls.getD k 0)) := (hnx.cell (World.block_lt_of_cell? _ _ hc)).trans hc
      have HC := Lib.hid hcell
      clear hcell hc
      have hlen : (allB (ls.take k)).length ≤ 4000 := by rw [allB_len, List.length_take]; omega
      have hsz := hnx.size
      have HS := Lib.hid (allB_snoc ls k hlt)
      have eg : ls.getD k 0 = ls[k] := by simp [List.getD, List.getElem?_eq_getElem hlt]
      have EG := Lib.hid eg
      clear eg
      go_wp2_with fail
      refine (put_ref _ wr).mono ?_
      rintro e w1 ⟨v', rfl, hown', hb'⟩
      have hbl := byts_len ls[k] 4
      rw [hbl] at hown'
      clear hbl
      obtain ⟨g, c', rfl, hg⟩ := own_form4 hown'
      have hown1 : w1.ownsRow w.heap.size 5 1 u3 (allB (ls.take k)).length ((allB (ls.take k)).map (Value.int .u8)) :=
        hown.kept (row := none) ⟨hb'.os, hb'.tape, hb'.output, hb'.size, fun i hi _ => hb'.block i hi⟩ (by cases u3.ownBlock <;> simp)
      have hcells := hown'.cells (g := g) rfl
      have HCS := Lib.hid hcells
      have HB' := Lib.hid hb'
      have hsz1 := hb'.size
      clear hcells hb' hc'
      go_wp2_with (at_builtin; refine wpList_append_own _ rfl _ _ 33 rfl w.heap.size 5 i0 (.int .u8 0) 1 1 Tryz.underlying33 hi hz0 hz1 hz2 rfl (by decide) _ _ _ rfl hown1 ⟨g, 0, none⟩ 4 c' ((byts ls[k] 4).map (Value.int .u8)) rfl (by simp [byts_len]) ?c1 ?c2 ?c3 ?c4 ?c5 ?_)
      case c1 => exact HCS.out
      case c2 => intro u hu; simp at hu; obtain ⟨x, _, rfl⟩ := hu; rfl
      case c3 => unfold maxLen; omega
      case c4 => omega
      case c5 => omega
      intro v2 w2 hown2 hgrow _
      have hn2 : Below w.heap.size w w2 := (hnx.trans (HB'.out.mono hsz)).grown hgrow (by omega) fun g hg => (hown1.lt g hg).1
      have hown3 : w2.ownsRow w.heap.size 5 1 v2 (allB (ls.take (k + 1))).length ((allB (ls.take (k + 1))).map (Value.int .u8)) := by
        rw [HS.out, EG.out, List.length_append, byts_len, List.map_append]
        exact hown2
      clear hown hown1 hown' hown2 hgrow
      go_wp2
      go_roundw
      case rel => exact ⟨k + 1, by omega, by go_num, hown3, hn2⟩
      case measure => simp [intOf]; omega
    · have e : k = ls.length := by omega
      go_wp2
      go_ret
      refine ⟨_, rfl, ?_, hnx⟩
      rw [List.take_of_length_le (by omega)] at hown
      exact hown
end Go.Proofs.YtccpmaahnfgkeaaGreatDoor.Wd

/- How an argument of type []byte or []int of a law is read: as a list of numbers; and what word.Get gives of the bytes that word.Put made. -/
namespace Go.Proofs.YtccpmaahnfgkeaaGreatDoor.Wd
set_option maxRecDepth 1000000
open Go.ChangeShapes Go.WideShapes Go.ChangeAt Go.RowKit

theorem Tryz.laidOut : laidOutB Tryz.prog = true := by kernel_rfl
theorem Tryz.cells5 : Tryz.prog.cellsOf 5 = 1 := by kernel_rfl
theorem Tryz.cells3 : Tryz.prog.cellsOf 3 = 1 := by kernel_rfl
theorem Tryz.own : ownKnob Tryz.prog.godebug = none := by kernel_rfl

theorem wf_u8 {n : Int} (h : (Lit.int .u8 n).wf = true) : 0 ≤ n ∧ n ≤ 255 := by
  have h1 : IntKind.u8.min = 0 := rfl
  have h2 : IntKind.u8.max = 255 := rfl
  simp only [Lit.wf, Bool.and_eq_true, decide_eq_true_eq] at h
  omega

theorem open_row {H : Type} {enc : TypeId × Value → H} {W : World} {t e : TypeId} {k : IntKind} {a0 : Option Addr} {len cap : Nat} {d : DataW H} {ps : List MemPlace}
    (ht : Tryz.prog.underlying t = some (.slice e)) (he : Tryz.prog.underlying e = some (.int k)) (hc : Tryz.prog.cellsOf e = 1)
    (h : DataW.Trod enc Tryz.prog W 0 (fun _ => true) true t (.slice a0 len cap) d ps) :
    ∃ xs : List Int, xs.length = len ∧ len ≤ maxLen ∧ (∀ n ∈ xs, (Lit.int k n).wf = true) ∧ (xs = [] ∨ ∃ b off, a0 = some ⟨b, off, none⟩ ∧ ∀ i, i < xs.length → W.cell? ⟨b, off + i, none⟩ = some (.int k (xs.getD i 0))) := by
  obtain ⟨fuel, hf⟩ := h
  rcases open_ints ht he hc hf with ⟨hcs, _⟩ | ⟨a, len', cap', zs, hcs, _, hl, hm, hz, _, hcell, hwz⟩
  · simp [Value.cells] at hcs
    obtain ⟨rfl, rfl, rfl⟩ := hcs
    exact ⟨[], rfl, Nat.zero_le _, by simp, .inl rfl⟩
  · simp [Value.cells] at hcs
    obtain ⟨rfl, rfl, rfl⟩ := hcs
    simp only [if_true] at hz
    have e1 : (zs.take len).length = len := by rw [List.length_take]; omega
    refine ⟨zs.take len, e1, by omega, fun n hn => hwz n (List.mem_of_mem_take hn), ?_⟩
    by_cases h0 : len = 0
    · left; subst h0; rfl
    · obtain ⟨b, off, spot⟩ := a
      have hspot : spot = none := by simpa [Addr.add] using World.cell?_spot (hcell 0 (by omega))
      subst hspot
      refine .inr ⟨b, off, rfl, fun i hi => ?_⟩
      rw [e1] at hi
      have := hcell i (by omega)
      rw [add_plain] at this
      rw [this]
      simp [List.getD, hi]

theorem bytes_of {xs : List Int} (h : ∀ n ∈ xs, (Lit.int .u8 n).wf = true) : Bytes xs := by
  intro i
  by_cases hi : i < xs.length
  · have e : xs.getD i 0 = xs[i] := by simp [List.getD, List.getElem?_eq_getElem hi]
    rw [e]; exact wf_u8 (h _ (List.getElem_mem hi))
  · have e : xs.getD i 0 = 0 := by simp [List.getD, List.getElem?_eq_none (Nat.le_of_not_lt hi)]
    rw [e]; omega

/-- An argument of type []byte. -/
theorem open_bts {H : Type} {enc : TypeId × Value → H} {W : World} {base : Nat} {v : Value} {d : DataW H} {ps : List MemPlace} (hok : Value.okWide Tryz.prog W .any base 33 v)
    (h : DataW.Trod enc Tryz.prog W 0 (fun _ => true) true 33 v d ps) : ∃ xs, Bts W v xs ∧ Bytes xs ∧ xs.length ≤ maxLen := by
  obtain ⟨a0, len, cap, rfl⟩ := okWide_slice Tryz.underlying33 hok
  obtain ⟨xs, rfl, hm, hw, hx⟩ := open_row Tryz.underlying33 Tryz.underlying5 Tryz.cells5 h
  exact ⟨xs, ⟨_, _, rfl, hx⟩, bytes_of hw, hm⟩
/-- An argument of type []int. -/
theorem open_nums {H : Type} {enc : TypeId × Value → H} {W : World} {base : Nat} {v : Value} {d : DataW H} {ps : List MemPlace} (hok : Value.okWide Tryz.prog W .any base 23 v)
    (h : DataW.Trod enc Tryz.prog W 0 (fun _ => true) true 23 v d ps) : ∃ xs, Ints W v xs ∧ xs.length ≤ maxLen := by
  obtain ⟨a0, len, cap, rfl⟩ := okWide_slice Tryz.underlying23 hok
  obtain ⟨xs, rfl, hm, hw, hx⟩ := open_row Tryz.underlying23 Tryz.underlying3 Tryz.cells3 h
  exact ⟨xs, ⟨_, _, rfl, hx⟩, hm⟩

theorem acc_app (xs ys : List Int) (p k : Nat) (h : p + k ≤ ys.length) : acc (xs ++ ys) (xs.length + p) k = acc ys p k := by
  induction k with
  | zero => rfl
  | succ k ih =>
    simp only [acc]
    rw [ih (by omega)]
    congr 1
    rw [Nat.add_assoc]
    simp [List.getD, List.getElem?_append_right]
theorem acc_byts (o : Int) : acc (byts o 4) 0 4 = o % 4294967296 := by
  rw [byts4]
  show (((0 * 256 + o % 4294967296 / 16777216) * 256 + o % 4294967296 / 65536 % 256) * 256 + o % 4294967296 / 256 % 256) * 256 + o % 256 = _
  omega
theorem sgn_mod (o : Int) (h1 : -2147483648 ≤ o) (h2 : o ≤ 2147483647) : sgn (o % 4294967296) = o := by unfold sgn; split <;> omega
theorem sgn_mod' (o : Int) : sgn (o % 4294967296) % 4294967296 = o % 4294967296 := by unfold sgn; split <;> omega

/-- Put and then Get: the number with the same lowest 32 bits. -/
theorem get_put (v : Value) (o : Int) (w : World) (hb : Bts w v (byts o 4)) :
    Calls Tryz.prog 92 #[v, .int .i64 0] w fun e w' => e = .returned (.tuple #[.int .i64 (sgn (o % 4294967296)), .int .i64 0]) ∧ w = w' := by
  have h := get_yes v (byts o 4) 0 w hb (byts_Bytes o 4) (by rw [byts_len]; omega) (by rw [byts_len]; omega)
  rw [acc_byts] at h; exact h

theorem named_is (n : Int) (w : World) (a : 1 ≤ n) (b : n ≤ 1073741823) : Calls Tryz.prog 75 #[.int .i64 (2 * n)] w fun e w' => e = .returned (.tuple #[.int .i64 n, .bool true]) ∧ w = w' := by
  have h := named_any (2 * n) w (by omega) (by omega)
  have e := nam_yes (o := 2 * n) (by omega) (by omega) (by omega)
  rw [← e.1, ← e.2, show 2 * n / 2 = n by omega] at h; exact h
theorem named_odd (n : Int) (w : World) (a : -1073741824 ≤ n) (b : n ≤ 1073741823) : Calls Tryz.prog 75 #[.int .i64 (2 * n + 1)] w fun e w' => e = .returned (.tuple #[.int .i64 0, .bool false]) ∧ w = w' := by
  have h := named_any (2 * n + 1) w (by omega) (by omega)
  have e := nam_no (o := 2 * n + 1) (by omega)
  rw [← e.1, ← e.2] at h; exact h
theorem number_even (n : Int) (w : World) (a : 1 ≤ n) (b : n ≤ 1073741823) : Calls Tryz.prog 109 #[.int .i64 (2 * n)] w fun e w' => e = .returned (.tuple #[.int .i64 0, .bool false]) ∧ w = w' :=
  number_no _ w (by omega) (by omega) (by omega)
theorem number_of (n : Int) (w : World) (a : -1073741824 ≤ n) (b : n ≤ 1073741823) : Calls Tryz.prog 109 #[.int .i64 (2 * n + 1)] w fun e w' => e = .returned (.tuple #[.int .i64 n, .bool true]) ∧ w = w' := by
  have h := number_yes (2 * n + 1) w (by omega) (by omega) (by omega)
  rw [show (2 * n + 1) / 2 = n by omega] at h; exact h
theorem get_put_is (v : Value) (o : Int) (w : World) (hb : Bts w v (byts o 4)) (h1 : -2147483648 ≤ o) (h2 : o ≤ 2147483647) :
    Calls Tryz.prog 92 #[v, .int .i64 0] w fun e w' => e = .returned (.tuple #[.int .i64 o, .int .i64 0]) ∧ w = w' := by
  have h := get_put v o w hb
  rw [sgn_mod o h1 h2] at h; exact h
end Go.Proofs.YtccpmaahnfgkeaaGreatDoor.Wd
