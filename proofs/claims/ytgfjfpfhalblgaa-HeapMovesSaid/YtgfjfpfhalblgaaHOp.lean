/- What the functions New, of, first, Read, Room, Blocks of package heap do. No condition but those that each statement names. -/
import Derived.Test.YtgfjfpfhalblgaaHAt
import Derived.Laws.StructEq
import Derived.Deep.LoopGhost
import Derived.Deep.RegionHeld3
namespace Go.Proofs.Ytgfjfpfhalblgaa
set_option maxRecDepth 1000000
open Go.ChangeShapes Go.WideShapes Go.ChangeAt Go.RowKit

theorem below_drewN {b : Nat} {w w' : World} (h : Below b w w') (d : Nat) : Below b w (w'.drewN d) := ⟨h.os, h.tape, h.output, h.size, h.block⟩

/-! '==' on spans. -/
theorem Try.u58 : Try.prog.underlying 58 = some (.struct (Try.prog.fieldsOf 58)) := by kernel_rfl
theorem Try.st58 : Try.prog.stoodInHeld 58 = false := by kernel_rfl
theorem Try.gd58 : Try.prog.eqGuardType Try.prog.depth 58 = false := by kernel_rfl
theorem Try.fs58 : ((Try.prog.fieldsOf 58).toList.map fun f => (f.name, f.type, f.offset)) = [("at", 3, 0), ("size", 3, 1)] := by kernel_rfl
theorem fields_two {l : List Field} {n1 n2 : String} {t1 t2 o1 o2 : Nat} (h : (l.map fun f => (f.name, f.type, f.offset)) = [(n1, t1, o1), (n2, t2, o2)]) : ∃ f g, l = [f, g] ∧ f.name = n1 ∧ f.type = t1 ∧ f.offset = o1 ∧ g.name = n2 ∧ g.type = t2 ∧ g.offset = o2 := by
  match l, h with
  | [f, g], h =>
    simp at h
    exact ⟨f, g, rfl, h.1.1, h.1.2.1, h.1.2.2, h.2.1, h.2.2.1, h.2.2.2⟩
theorem eql_two (x y x' y' : Int) (w : World) : (Op.equalIn 10000 58 (.agg #[.int .i64 x, .int .i64 y]) (.agg #[.int .i64 x', .int .i64 y'])).run Try.prog w = .ok (x == x' && y == y') w := by
  rw [run_equalIn_agg _ _ _ _ _ Try.u58 Try.st58]
  obtain ⟨f, g, h, h1, h2, h3, h4, h5, h6⟩ := fields_two Try.fs58
  rw [h]
  have e1 := run_equalIn_int (P := Try.prog) w 9998 3 .i64 .i64 x x' Try.underlying3
  have e2 := run_equalIn_int (P := Try.prog) w 9998 3 .i64 .i64 y y' Try.underlying3
  simp only [Nat.reduceAdd] at e1 e2
  simp [Op.eqFields, h1, h2, h3, h4, h5, h6, part, e1, e2]
  cases hx : x == x' <;> cases hy : y == y' <;> simp_all
theorem eql_span (o : Option Bk) (w : World) : (binOp .eql 58 (.agg #[.int .i64 (spA o), .int .i64 (spL o)]) (.agg #[.int .i64 (-1), .int .i64 (-1)])).run Try.prog w = .ok (.bool o.isNone) w := by
  rw [run_eql_struct, eql_two]
  cases o with
  | none => rfl
  | some b =>
    have : (((b.a : Int)) == -1) = false := by simp
    simp [spA, this]
theorem neq_span (o : Option Bk) (w : World) : (binOp .neq 58 (.agg #[.int .i64 (spA o), .int .i64 (spL o)]) (.agg #[.int .i64 (-1), .int .i64 (-1)])).run Try.prog w = .ok (.bool o.isSome) w := by
  rw [run_neq_struct, eql_two]
  cases o with
  | none => rfl
  | some b =>
    have : (((b.a : Int)) == -1) = false := by simp
    simp [spA, this]
theorem guard_span (op : BinOp) (x y : Operand) (xs ys : Array Value) (w : World) : (eqGuard op 58 x y (.agg xs) (.agg ys)).run Try.prog w = .ok () w := run_eqGuard_agg w op 58 x y xs ys Try.gd58

/-! New. -/
theorem Try.info3 : (Try.prog.info? 3).map (fun i => (i.zero, i.size, i.bytes)) = some (some (.int .i64 0), 1, 8) := by kernel_rfl
theorem mk_words (w : World) (n : Nat) (hn : n ≤ 32768) : (Instr.makeSlice 29 (.int .i64 (n : Int)) (.int .i64 (n : Int))).run Try.prog w = .ok (.slice (some ⟨w.heap.size, 0, none⟩) n n) (w.alloc (.cells (madeCells (Value.int .i64 0).cells n) 3)) := by
  obtain ⟨i0, hi, hz0, hz1, hz2⟩ := info_parts Try.info3
  have h := run_make (P := Try.prog) w 29 3 i0 (.int .i64 0) Try.underlying29 hi hz0 .i64 .i64 (n : Int) (n : Int) (by omega) (by omega) (by rw [hz2]; omega) (by omega)
  rw [hz1, Nat.mul_one, show ((n : Int)).toNat = n by omega] at h
  exact h
theorem made_row (w : World) (n : Nat) : RowV (w.alloc (.cells (madeCells (Value.int .i64 0).cells n) 3)) w.heap.size n (fun _ => 0) := fun j hj => by
  constructor
  · rw [World.cell?_alloc_at _ _ _ _ rfl]
    show (madeCells #[Value.int .i64 0] n)[j]? = _
    rw [← Array.getElem?_toList, toList_madeCells_one, List.getElem?_replicate, if_pos hj]
  · have h : (w.alloc (.cells (madeCells (Value.int .i64 0).cells n) 3)).heap[w.heap.size]? = some (.cells (madeCells (Value.int .i64 0).cells n) 3) := heap_alloc_new w _
    unfold World.frozen?
    simp only [h]
    simp
theorem frozen_top (w : World) (cs : Array Value) (t : TypeId) (j : Nat) : (w.alloc (.cells cs t)).frozen? ⟨w.heap.size, j, none⟩ = false := by
  have h : (w.alloc (.cells cs t)).heap[w.heap.size]? = some (.cells cs t) := heap_alloc_new w _
  unfold World.frozen?
  simp only [h]
  simp
/-- A new heap. -/
def NewPost (n : Nat) (w : World) (e : Ending) (w' : World) : Prop :=
  ∃ c : Hp, e = .returned (.tuple #[.pointer (some ⟨c.h, 0, none⟩), .int .i64 0]) ∧ w.heap.size ≤ c.x ∧ HeapAt w' c (.slice none 0 0) n [] ∧ Below w.heap.size w w'
theorem new_no (n : Int) (w : World) (h : n < 0 ∨ 32768 < n) : Calls Try.prog 10 #[.int .i64 n] w fun e w' => e = .returned (.tuple #[.pointer none, .int .i64 2]) ∧ w = w' := by
  rcases h with h | h
  · go_enter Try.func10, Try.ntmps10
    go_wp2
    go_ret2
    exact ⟨rfl, rfl⟩
  · have h' : ¬ n < 0 := by omega
    go_enter Try.func10, Try.ntmps10
    go_wp2
    go_ret2
    exact ⟨rfl, rfl⟩
set_option maxHeartbeats 1000000 in
theorem new_yes (n : Nat) (w : World) (hn : n ≤ 32768) : Calls Try.prog 10 #[.int .i64 n] w (NewPost n w) := by
  have hm := mk_words w n hn
  have hr : RowV ((w.alloc (.cells (madeCells (Value.int .i64 0).cells n) 3)).alloc (.cells #[.slice (some ⟨w.heap.size, 0, none⟩) n n, .slice none 0 0, .int .i64 0] 53)) w.heap.size n (fun _ => 0) :=
    (made_row w n).only (F := fun _ => False) (Only.of_below ((Below.refl _ _).alloc (Nat.le_refl _) _)) id
  have hf := Lib.hid (fill_any w.heap.size n _ 0 n n (some ⟨w.heap.size, 0, none⟩) (-1) _ hr (by omega) hn (fun _ => rfl))
  clear hr
  go_enter Try.func10, Try.ntmps10
  go_wp2_with (go_at_call 21; refine (hf.out).mono ?_; rintro e w1 ⟨rfl, hr1, ho1⟩; have HR := Lib.hid hr1; have HO := Lib.hid ho1; clear hr1 ho1)
  go_ret2
  have ho := HO.out
  have e1 : (w.alloc (.cells (madeCells (Value.int .i64 0).cells n) 3)).heap.size = w.heap.size + 1 := by simp
  have cell : ∀ i, w1.cell? ⟨w.heap.size + 1, i, none⟩ = #[Value.slice (some ⟨w.heap.size, 0, none⟩) n n, .slice none 0 0, .int .i64 0][i]? := fun i => by
    rw [ho.cell (p := ⟨w.heap.size + 1, i, none⟩) (by simp) (by show ¬ w.heap.size + 1 = w.heap.size; omega), World.cell?_alloc_at _ _ _ _ (by simp)]
  refine ⟨⟨w.heap.size, w.heap.size + 1⟩, rfl, Nat.le_refl _, ⟨⟨cell 0, cell 1, cell 2, fun j => ?_, World.ownsRow_nil _ _ _ _, HR.out.congr fun j hj => ?_, Nat.lt_succ_self _, ?_, hn, by simp⟩, good_nil n⟩, ?_⟩
  · rw [ho.frozen (p := ⟨w.heap.size + 1, j, none⟩) (by simp) (by show ¬ w.heap.size + 1 = w.heap.size; omega)]
    have := frozen_top (w.alloc (.cells (madeCells (Value.int .i64 0).cells n) 3)) #[.slice (some ⟨w.heap.size, 0, none⟩) n n, .slice none 0 0, .int .i64 0] 53 j
    simp only [World.size_alloc] at this
    exact this
  · simp only [fillV, wordAt]; rw [if_pos (by omega)]
  · have := ho.size
    simp at this ⊢; omega
  · refine (((Below.refl _ _).alloc (Nat.le_refl _) _).alloc (by simp) _).trans (ho.below (B := w.heap.size) (fun i hi he => absurd he (Nat.ne_of_lt hi)) ?_)
    simp; omega

/-- The words from a on, l of them, as a slice. -/
def OfPost (x a l : Nat) (w : World) (e : Ending) (w' : World) : Prop := ∃ p cp, e = .returned (.slice p l cp) ∧ (0 < l → p = some ⟨x, a, none⟩) ∧ l ≤ cp ∧ (∃ o, p = some ⟨x, o, none⟩) ∧ Below w.heap.size w w'
/-- Where there is room first. -/
def FirstPost (V : Nat → Int) (n q : Nat) (w : World) (e : Ending) (w' : World) : Prop := ∃ (a : Nat) (ok : Bool), e = .returned (.tuple #[.int .i64 a, .bool ok]) ∧ FirstF V n q a ok ∧ w = w'
/-- How many are free, and how many side by side. -/
def RoomPost (V : Nat → Int) (n : Nat) (w : World) (e : Ending) (w' : World) : Prop := ∃ m : Nat, e = .returned (.tuple #[.int .i64 (cntF V n), .int .i64 m]) ∧ LongIs V n m ∧ w = w'
section
variable {w : World} {c : Hp} {v : Value} {n nx : Nat} {B : List (Option Bk)} {V : Nat → Int}
theorem of_any (a l : Nat) (h : HeapM w c v n B nx V) (hl : a + l ≤ n) : Calls Try.prog 23 #[.pointer (some ⟨c.h, 0, none⟩), .agg #[.int .i64 a, .int .i64 l]] w (OfPost c.x a l w) := by
  have h0 := h.c0
  have hs := h.small
  have hlt := h.lt
  clear h
  by_cases ha : a = n
  · obtain rfl : l = 0 := by omega
    subst ha
    go_enter Try.func23, Try.ntmps23
    go_wp2
    go_quiet (fail)
    go_wp2
    go_ret
    exact ⟨_, _, rfl, fun h => by omega, Nat.le_refl _, ⟨0, rfl⟩, below_drewN ((Below.refl _ _).alloc (Nat.le_refl _) _) _⟩
  · have ha2 : (a : Int) < n := by omega
    have hl1 : ((a : Int) + l) ≤ n := by omega
    go_enter Try.func23, Try.ntmps23
    go_wp2
    go_quiet (fail)
    go_wp2
    go_ret
    exact ⟨some ⟨c.x, a, none⟩, n - a, by show Ending.returned (.slice _ (a + l - a) _) = _; rw [show a + l - a = l by omega], fun _ => rfl, by omega, ⟨a, rfl⟩, below_drewN ((Below.refl _ _).alloc (Nat.le_refl _) _) _⟩

set_option maxHeartbeats 2000000 in
theorem first_any (q : Nat) (h : HeapM w c v n B nx V) (hV : ∀ j, -1 ≤ V j ∧ V j ≤ 65535) (hq : q ≤ 9223372036854775807) : Calls Try.prog 22 #[.pointer (some ⟨c.h, 0, none⟩), .int .i64 q] w (FirstPost V n q w) := by
  have h0 := h.c0
  have hs := h.small
  have HR := Lib.hid h.row
  have HV := Lib.hid hV
  clear h hV
  go_enter Try.func22, Try.ntmps22
  go_wp2
  go_step3
  go_wp2
  go_step3
  go_wp2
  go_loopg [6] (n + 1) (fun g s6 wx => ∃ a : Nat, s6 = .int .i64 a ∧ a ≤ n ∧ n + 1 ≤ a + g ∧ (∀ b, b < a → ∃ j, j < q ∧ V (b + j) ≠ -1) ∧ w = wx)
  case atStart => exact ⟨0, rfl, by omega, by omega, fun b hb => by omega, rfl⟩
  case round =>
    obtain ⟨a, rfl, ha1, ha2, ha3, rfl⟩ := hrel
    have HA := Lib.hid ha3
    clear ha3
    by_cases hlt : a + q ≤ n
    · have hlt' : (a : Int) ≤ n - q := by omega
      go_wp2
      obtain ⟨g, rfl⟩ : ∃ g, gk = g + 1 := ⟨gk - 1, by omega⟩
      go_loopg [6, 7] 40000 (fun g2 s6 s7 wx => ∃ i : Nat, s6 = .int .i64 a ∧ s7 = .int .i64 ((a : Int) + i - 1) ∧ i ≤ q ∧ i < g2 ∧ (∀ j, i ≤ j → j < q → V (a + j) = -1) ∧ w = wx)
      case atStart => exact ⟨q, rfl, by go_num, Nat.le_refl _, by omega, fun j h1 h2 => by omega, rfl⟩
      case round =>
        obtain ⟨i, rfl, rfl, hi1, hi2, hi3, rfl⟩ := hrel
        have HI := Lib.hid hi3
        clear hi3
        rcases i with _ | i
        · have hd : decide ((a : Int) ≤ (a : Int) + (0 : Nat) - 1) = false := decide_eq_false (by omega)
          go_wp2
          rw [Exit.noGoto_ret]
          go_ret2
          exact ⟨a, true, rfl, .inl ⟨rfl, hlt, fun j hj => HI.out j (Nat.zero_le _) hj, HA.out⟩, rfl⟩
        · have e1 : (a : Int) + (i + 1 : Nat) - 1 = ((a + i : Nat) : Int) := by omega
          rw [e1]
          obtain ⟨c1, _⟩ := HR.out (a + i) (by omega)
          have hge : a ≤ a + i := by omega
          obtain ⟨p, hp⟩ : ∃ p, a + i = p := ⟨_, rfl⟩
          have HP := Lib.hid hp
          rw [hp] at c1 hge ⊢
          have hpn : p < n := by omega
          clear e1 hp
          by_cases hv : V p = -1
          · rw [hv] at c1
            have HVV := Lib.hid hv
            clear hv
            go_wp2
            obtain ⟨g2, rfl⟩ : ∃ g2, gk = g2 + 1 := ⟨gk - 1, by omega⟩
            go_roundg g2
            case rel => exact ⟨i, rfl, by have := HP.out; first | (congr 1; omega) | go_num, by omega, by omega, fun j h1 h2 => by
              by_cases hj : j = i
              · rw [hj, HP.out]; exact HVV.out
              · exact HI.out j (by omega) h2, rfl⟩
            case measure => omega
          · have hne : (V p == -1) = false := by simpa using hv
            have hne2 : (V p != -1) = true := by simpa using hv
            have HVV := Lib.hid hv
            generalize V p = u at c1 hne hne2
            clear hv
            go_wp2
            go_roundg g
            case rel => exact ⟨p + 1, by go_num, by omega, by have := HP.out; omega, fun b hb => by
              rcases Nat.lt_or_ge b a with h1 | h1
              · exact HA.out b h1
              · exact ⟨p - b, by have := HP.out; omega, by rw [show b + (p - b) = p by omega]; exact HVV.out⟩, rfl⟩
            case measure => omega
    · have hlt' : ¬ (a : Int) ≤ n - q := by omega
      go_wp2
      (try rw [Exit.noGoto_ret])
      go_ret2
      exact ⟨0, false, rfl, .inr ⟨rfl, rfl, fun b hb => HA.out b (by omega)⟩, rfl⟩
end
end Go.Proofs.Ytgfjfpfhalblgaa
