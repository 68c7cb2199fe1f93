/- HeapNew's walk. -/
import Derived.Test.YtgfjfpfhalblgaaHLw
namespace Go.Proofs.Ytgfjfpfhalblgaa
set_option maxRecDepth 1000000
open Go.ChangeShapes Go.WideShapes Go.ChangeAt Go.RowKit

theorem cnt_nil (n : Nat) : cntF (wordAt []) n = n := by
  have : cntF (wordAt []) n = n - 0 := cntF_tight fun i _ => ⟨fun _ => Nat.zero_le _, fun _ => rfl⟩
  omega
theorem comp_nil {n : Nat} {B' : List (Option Bk)} {m : Nat} {S : List Nat} (h : CompIs n [] B' m S) : m = 0 := by
  have : S = [] := by
    cases S with
    | nil => rfl
    | cons x r =>
      have := (h.plc.mem x).1 (by simp)
      simp [lenB, look_nil] at this
  subst this
  rw [h.mv]; rfl
theorem gave_form {l : List Nat} {w w' : World} {e : Ending} (h : GaveN l w e w') : ∃ a cap, e = .returned (.slice a l.length cap) ∧ w'.ownsRow w.heap.size 3 1 (.slice a l.length cap) l.length (valsN l) ∧ Below w.heap.size w w' := by
  obtain ⟨u, rfl, own, b⟩ := h
  rcases own.2 with ⟨rfl, h0⟩ | ⟨g, cap, cur, rfl, _, _, hn, _⟩
  · exact ⟨none, 0, by rw [h0], by rw [h0] at own ⊢; exact own, b⟩
  · exact ⟨_, cap, rfl, own, b⟩
set_option maxHeartbeats 2000000 in
theorem heapNew_walk (W : World) (n : Int) (hw : (Lit.int .i64 n).wf = true) : Calls Try.prog 4 #[.int .i64 n] W fun e W' => e = .returned (.bool true) ∧ Below W.heap.size W W' := by
  have HK := Lib.hid (fun w => known_any w)
  by_cases h0 : n < 0
  · have HN := Lib.hid (new_no n W (.inl h0))
    have hd : decide (n < 0) = true := decide_eq_true h0
    clear hw h0
    go_enter Try.func4, Try.ntmps4
    go_wp2_with fail
    refine HN.out.mono ?_
    rintro e w1 ⟨rfl, rfl⟩
    go_wp2_with fail
    refine (HK.out W).mono ?_
    rintro e w1 ⟨rfl, b1⟩
    go_wp2_with fail
    go_ret
    exact ⟨rfl, b1⟩
  · have hd : decide (n < 0) = false := decide_eq_false h0
    by_cases h1 : 32768 < n
    · have HN := Lib.hid (new_no n W (.inr h1))
      have hd2 : decide (32768 < n) = true := decide_eq_true h1
      clear hw h0 h1
      go_enter Try.func4, Try.ntmps4
      go_wp2_with fail
      refine HN.out.mono ?_
      rintro e w1 ⟨rfl, rfl⟩
      go_wp2_with fail
      refine (HK.out W).mono ?_
      rintro e w1 ⟨rfl, b1⟩
      go_wp2_with fail
      go_ret
      exact ⟨rfl, b1⟩
    · obtain ⟨n, rfl⟩ := Int.eq_ofNat_of_zero_le (by omega : 0 ≤ n)
      have hn : n ≤ 32768 := by omega
      have hd2 : decide ((32768 : Int) < (n : Int)) = false := decide_eq_false h1
      have HN := Lib.hid (new_yes n W hn)
      have HR : Hid (∀ (c : Hp) (w1 : World), HeapB W w1 c (.slice none 0 0) n [] → Calls Try.prog 18 #[.pointer (some ⟨c.h, 0, none⟩)] w1 fun e w2 => e = .returned (.tuple #[.int .i64 n, .int .i64 n]) ∧ w1 = w2) :=
        Lib.hid (fun c w1 h => (room_any h.is.m).mono fun e w2 h => by
          obtain ⟨m, rfl, hl, rfl⟩ := h
          have := hl.eq (long_tight (V := wordAt []) (t := 0) (fun i _ => ⟨fun _ => Nat.zero_le _, fun _ => rfl⟩) (Nat.zero_le _))
          rw [cnt_nil, show m = n by omega]
          exact ⟨rfl, rfl⟩)
      have HS : Hid (∀ (c : Hp) (w1 : World), HeapB W w1 c (.slice none 0 0) n [] → Calls Try.prog 15 #[.pointer (some ⟨c.h, 0, none⟩), .int .i64 0] w1 (Told (.int .i64 (-1)) w1)) := Lib.hid (fun c w1 h => size_any 0 h.is.m)
      have HT : Hid (∀ (c : Hp) (w1 : World), HeapB W w1 c (.slice none 0 0) n [] → Calls Try.prog 17 #[.pointer (some ⟨c.h, 0, none⟩), .int .i64 0] w1 (Told (.int .i64 (-1)) w1)) := Lib.hid (fun c w1 h => at_any 0 h.is.m)
      clear hw h0 h1
      go_enter Try.func4, Try.ntmps4
      go_wp2_with fail
      refine HN.out.mono ?_
      rintro e w1 p
      obtain ⟨c, rfl, h1, _⟩ := heapB_new p
      have H1 := Lib.hid h1
      clear p h1
      go_wp2_with fail
      refine (HR.out c w1 H1.out).mono ?_
      rintro e w2 ⟨rfl, rfl⟩
      go_wp2_with fail
      refine (blocks_any H1.out.is.m).mono ?_
      rintro e w2 p
      obtain ⟨a, cap, rfl, _, b2⟩ := gave_form p
      have H2 := Lib.hid (H1.out.fresh b2)
      clear p b2
      go_wp2_with fail
      refine (HS.out c w2 H2.out).mono ?_
      rintro e w3 ⟨rfl, b3⟩
      have H3 := Lib.hid (H2.out.fresh b3)
      clear b3
      go_wp2_with fail
      refine (HT.out c w3 H3.out).mono ?_
      rintro e w4 ⟨rfl, b4⟩
      have H4 := Lib.hid (H3.out.fresh b4)
      clear b4
      go_wp2_with fail
      refine (compact_any H4.out.is).mono ?_
      rintro e w5 p
      obtain ⟨m, B', S, rfl, hc, h5, _⟩ := H4.out.comp p
      obtain rfl := comp_nil hc
      have H5 := Lib.hid h5
      clear p h5 hc
      go_wp2_with fail
      refine (HK.out w5).mono ?_
      rintro e w6 ⟨rfl, b6⟩
      have B6 := Lib.hid (H5.out.bl.trans (b6.mono H5.out.bl.size))
      clear b6
      go_wp2_with fail
      go_ret
      exact ⟨rfl, B6.out⟩
end Go.Proofs.Ytgfjfpfhalblgaa
