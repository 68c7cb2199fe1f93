/- What the functions New and First of package bits do. No condition but those that each statement names. -/
import Derived.Test.YtccpmaahnfgkeaaGreatDoorLBn
import Derived.Test.YtccpmaahnfgkeaaGreatDoorBLen
import Derived.Deep.LoopGhost
namespace Go.Proofs.YtccpmaahnfgkeaaGreatDoor
open Go.RowKit

theorem Tryz.info143 : (Tryz.prog.info? 143).map (fun i => (i.zero, i.size, i.bytes)) = some (some (.int .u64 0), 1, 8) := by kernel_rfl

theorem mkwords (w : World) (L : Nat) (hL : L ≤ 1024) : (Instr.makeSlice 138 (.int .i64 L) (.int .i64 L)).run Tryz.prog w = .ok (.slice (some ⟨w.heap.size, 0, none⟩) L L) (w.alloc (.cells (madeCells (Value.int .u64 0).cells L) 143)) := by
  obtain ⟨i0, hi, hz0, hz1, hz2⟩ := info_parts Tryz.info143
  have h := run_make (P := Tryz.prog) w 138 143 i0 (.int .u64 0) Tryz.underlying138 hi hz0 .i64 .i64 L L (by omega) (by omega) (by rw [hz2]; omega) (by omega)
  rw [hz1] at h
  simpa using h

theorem new_no (n : Int) (w : World) (h : n < 0 ∨ 65536 < n) :
    Calls Tryz.prog 48 #[.int .i64 n] w fun e w' => e = .returned (.tuple #[.pointer none, .int .i64 2]) ∧ w = w' := by
  rcases h with h | h
  · have h' : decide (n < 0) = true := by simpa using h
    go_enter Tryz.func48, Tryz.ntmps48
    go_wp2
    go_ret2
    exact ⟨rfl, rfl⟩
  · have h' : ¬ n < 0 := by omega
    go_enter Tryz.func48, Tryz.ntmps48
    go_wp2
    go_ret2
    exact ⟨rfl, rfl⟩

theorem new_map (w : World) (n L : Nat) (hL : (n + 63) / 64 = L) (h : n ≤ 65536) :
    MapAt ((w.alloc (Obj.cells (madeCells #[Value.int IntKind.u64 0] L) 143)).alloc (Obj.cells #[Value.int IntKind.i64 ↑n, Value.slice (some { block := w.heap.size, off := 0 }) L L] 140))
      (w.heap.size + 1) w.heap.size n fun _ => false := by
  subst hL
  have e : ∀ o, (w.alloc o).heap.size = w.heap.size + 1 := fun o => by simp
  have hnew : ∀ i, ((w.alloc (Obj.cells (madeCells #[Value.int IntKind.u64 0] ((n + 63) / 64)) 143)).alloc (Obj.cells #[Value.int IntKind.i64 ↑n, Value.slice (some { block := w.heap.size, off := 0 }) ((n + 63) / 64) ((n + 63) / 64)] 140)).cell? ⟨w.heap.size + 1, i, none⟩ = #[Value.int IntKind.i64 ↑n, Value.slice (some { block := w.heap.size, off := 0 }) ((n + 63) / 64) ((n + 63) / 64)][i]? := fun i => by
    have := World.cell?_alloc_new (w.alloc (Obj.cells (madeCells #[Value.int IntKind.u64 0] ((n + 63) / 64)) 143)) #[Value.int IntKind.i64 ↑n, Value.slice (some { block := w.heap.size, off := 0 }) ((n + 63) / 64) ((n + 63) / 64)] 140 i
    rw [e] at this
    exact this
  refine ⟨hnew 0, hnew 1, fun j hj => ?_, fun j => ?_, by omega, h, fun _ _ => rfl, by simp, by simp; omega⟩
  · rw [World.cell?_alloc_lt _ _ _ (by simp), World.cell?_alloc_new, wd_zero]
    have hs : j < (madeCells #[Value.int IntKind.u64 0] ((n + 63) / 64)).size := by rw [size_madeCells]; exact hj
    rw [Array.getElem?_eq_getElem hs]
    simp [madeCells, Nat.mod_one]
  · rw [World.frozen?_alloc_old _ _ _ (by simp), World.frozen?_alloc_new]

set_option maxHeartbeats 1000000 in
theorem new_yes (n : Nat) (w : World) (h : n ≤ 65536) :
    Calls Tryz.prog 48 #[.int .i64 n] w fun e w' => e = .returned (.tuple #[.pointer (some ⟨w.heap.size + 1, 0, none⟩), .int .i64 0]) ∧ MapAt w' (w.heap.size + 1) w.heap.size n (fun _ => false) ∧ Below w.heap.size w w' := by
  have h1 : ¬ (n : Int) < 0 := by omega
  have h2 : ¬ (65536 : Int) < n := by omega
  obtain ⟨L, hL⟩ : ∃ L : Nat, (n + 63) / 64 = L := ⟨_, rfl⟩
  have hmk := mkwords w L (by omega)
  have hL1 : ((n : Int) + 64 - 1) / 64 = L := by omega
  have HL := Lib.hid hL
  clear hL
  go_enter Tryz.func48, Tryz.ntmps48
  go_wp2
  go_ret2
  exact ⟨rfl, new_map w n L HL.out h, ((Below.refl _ _).alloc (Nat.le_refl _) _).alloc (by simp) _⟩

/-- What First leaves: where there is room first, if anywhere. -/
def FirstPost (S : Nat → Bool) (n c : Nat) (w : World) (e : Ending) (w' : World) : Prop :=
  ∃ (a : Nat) (ok : Bool) (d : Nat), e = .returned (.tuple #[.int .i64 a, .bool ok]) ∧ FirstIs S n c a ok ∧ w' = w.drewN d

theorem first_no (m : Nat) (c : Int) (w : World) (h : c < 1) :
    Calls Tryz.prog 52 #[.pointer (some ⟨m, 0, none⟩), .int .i64 c] w fun e w' => e = .returned (.tuple #[.int .i64 0, .bool false]) ∧ w = w' := by
  go_enter Tryz.func52, Tryz.ntmps52
  go_wp2
  go_step3
  go_wp2
  rw [Exit.noGoto_ret]
  go_ret2
  exact ⟨rfl, rfl⟩

/-- A bit that is set in the word j of those of S among c from f on. -/
theorem andR_bit {S : Nat → Bool} {f c j : Nat} (h : wd (andR S f c) j ≠ 0) : ∃ k, k < 64 ∧ Lib.bitLen (wd (andR S f c) j) = k + 1 ∧ S (64 * j + k) = true ∧ f ≤ 64 * j + k ∧ 64 * j + k < f + c := by
  obtain ⟨k, h1, h2, h3⟩ := bitLen_bit _ h (wd_lt _ j)
  rw [wd_bit _ j k h3] at h2
  simp only [andR, inR, Bool.and_eq_true, decide_eq_true_eq] at h2
  exact ⟨k, h3, h1, h2.1, h2.2.1, h2.2.2⟩
theorem andR_none {S : Nat → Bool} {f c j : Nat} (h : wd (andR S f c) j = 0) (i : Nat) (_h1 : 64 * j ≤ i) (h2 : i < 64 * (j + 1)) (h3 : f ≤ i) (h4 : i < f + c) : S i = false := by
  have h5 := wd_bit (andR S f c) j (i - 64 * j) (by omega)
  rw [h, Nat.zero_testBit, show 64 * j + (i - 64 * j) = i by omega] at h5
  have h6 : inR f c i = true := by simp [inR]; omega
  simpa [andR, h6] using h5

/-- No run of c that begins ahead of b is free. -/
def NoRoom (S : Nat → Bool) (c b : Nat) : Prop := ∀ a, a < b → ∃ k, k < c ∧ S (a + k) = true
theorem noRoom_step {S : Nat → Bool} {n c f p : Nat} (hc : 1 ≤ c) (h : NoRoom S c f) (hp : S p = true) (h2 : p < f + c) (hn : p < n) : NoRoom S c (nxt S false n (p + 1)) := by
  obtain ⟨a1, a2, a3, a4⟩ := nxt_is S false n (p + 1) (by omega)
  intro b hb
  rcases Nat.lt_or_ge b f with h3 | h3
  · exact h b h3
  · rcases Nat.lt_or_ge p b with h4 | h4
    · exact ⟨0, by omega, by have := a3 b (by omega) hb; simpa using this⟩
    · exact ⟨p - b, by omega, by rw [show b + (p - b) = p by omega]; exact hp⟩

set_option maxHeartbeats 2000000 in
theorem first_any (m x n : Nat) (S : Nat → Bool) (c : Nat) (w : World) (h : MapAt w m x n S) (hT : Tab w) (hc : 1 ≤ c) (hc2 : c ≤ 9223372036854775807) :
    Calls Tryz.prog 52 #[.pointer (some ⟨m, 0, none⟩), .int .i64 c] w (FirstPost S n c w) := by
  have hs := h.small
  have HA := Lib.hid h
  have HT := Lib.hid hT
  clear hT h
  go_enter Tryz.func52, Tryz.ntmps52
  go_wp2
  go_step3
  go_wp2
  go_step3
  go_wp2
  go_loopg [6] (n + 1) (fun g s6 wx => ∃ f d : Nat, s6 = .int .i64 f ∧ f ≤ n ∧ n + 1 ≤ f + g ∧ NoRoom S c f ∧ wx = w.drewN d)
  case atStart => exact ⟨0, 0, rfl, by omega, by omega, fun a ha => by omega, rfl⟩
  case round =>
    obtain ⟨f, d, rfl, hf1, hf2, hf3, hw⟩ := hrel
    have HN := Lib.hid hf3
    have HW := Lib.hid hw
    have HR : Hid (MapAt wr m x n S) := by show MapAt wr m x n S; rw [hw]; exact HA.out.drewN d
    clear hf3 hw
    by_cases hlt : f + c ≤ n
    · have hlt' : (f : Int) ≤ n - c := by omega
      go_wp2_with (go_at_call 83; refine (mlen_any m x n S _ HR.out).mono ?_; rintro e w' ⟨rfl, rfl⟩)
      obtain ⟨g, rfl⟩ : ∃ g, gk = g + 1 := ⟨gk - 1, by omega⟩
      clear HR
      go_loopg [6, 7] 2000 (fun g2 s6 s7 wx => ∃ j d2 : Nat, s6 = .int .i64 f ∧ s7 = .int .i64 j ∧ f / 64 ≤ j ∧ 64 * j ≤ f + c + 63 ∧ 2000 ≤ j + g2 ∧ (∀ i, f ≤ i → i < f + c → i < 64 * j → S i = false) ∧ wx = w.drewN d2)
      case atStart => exact ⟨f / 64, d, rfl, by go_num, Nat.le_refl _, by omega, by omega, fun i _ _ _ => by omega, HW.out⟩
      case round =>
        obtain ⟨j, d2, rfl, rfl, hj1, hj2, hj3, hj4, hw⟩ := hrel
        have HF := Lib.hid hj4
        have HW := Lib.hid hw
        have HR : Hid (MapAt wr m x n S) := by show MapAt wr m x n S; rw [hw]; exact HA.out.drewN d2
        have HTR : Hid (Tab wr) := by show Tab wr; rw [hw]; exact HT.out
        clear hj4 hw
        by_cases hin : 64 * j < f + c
        · obtain ⟨L, hl1, hl2, hrow, hword⟩ := HR.out.open
          have hjL : j < L := by omega
          have hwj := hword j hjL
          have hjL' : (j : Int) < L := by omega
          have E := and_mask S f c j (by omega) hin
          have HM := Lib.hid (fun w => mask_any j f c w (by omega) (by omega) (by omega) (by omega) hin)
          clear hword
          generalize maskN (f - 64 * j) (min (f + c - 64 * j) 64) = M at E HM
          generalize wd S j = X at E hwj
          by_cases hY : wd (andR S f c) j = 0
          · have HY := Lib.hid (fun i h1 h2 h3 h4 => andR_none hY i h1 h2 h3 h4)
            rw [hY] at E
            clear hY
            go_wp2
            go_quiet (first | (go_at_call 84; exact Calls.quiet_of (HM.out _)))
            go_wp2
            obtain ⟨g2, rfl⟩ : ∃ g2, gk = g2 + 1 := ⟨gk - 1, by omega⟩
            go_roundg g2
            case rel => exact ⟨j + 1, d2 + nq, rfl, by go_num, by omega, by omega, by omega, fun i h1 h2 h3 => (Nat.lt_or_ge i (64 * j)).elim (fun h => HF.out i h1 h2 h) (fun h => HY.out i h h3 h1 h2), by rw [HW.out, World.drewN_drewN]⟩
            case measure => omega
          · obtain ⟨k, hk, hb, hS, hk1, hk2⟩ := andR_bit hY
            have hYl := wd_lt (andR S f c) j
            have HN2 : Hid (NoRoom S c (nxt S false n (64 * j + k + 1))) := noRoom_step hc HN.out hS hk2 (by omega)
            obtain ⟨hf1', hf2', _⟩ := nxt_is S false n (64 * j + k + 1) (by omega)
            have HX : Hid (∀ q, Calls Tryz.prog 85 #[.pointer (some ⟨m, 0, none⟩), .int .i64 ((j : Int) * 64 + (k + 1)), .bool false] (wr.drewN q) fun e w' => e = .returned (.int .i64 (nxt S false n (64 * j + k + 1))) ∧ wr.drewN q = w') := fun q => by
              have h := next_any m x n S false (64 * j + k + 1) (wr.drewN q) (HR.out.drewN q) HTR.out (by omega)
              rwa [show ((64 * j + k + 1 : Nat) : Int) = (j : Int) * 64 + (k + 1) by omega] at h
            generalize nxt S false n (64 * j + k + 1) = f' at HX HN2 hf1' hf2'
            have HL : Hid (∀ w, Calls Tryz.prog 86 #[.int .u64 (wd (andR S f c) j)] w fun e w' => e = .returned (.int .i64 ((k : Int) + 1)) ∧ w = w') := fun w => by
              have h := len64_any (wd (andR S f c) j) w (by omega) (by omega)
              rw [Int.toNat_natCast, hb] at h
              exact h
            generalize wd (andR S f c) j = Y at E HL hY hYl
            have hY0 : ((Y : Int) == 0) = false := by simp; omega
            clear hb hS hY hYl
            go_wp2
            go_quiet (first | (go_at_call 84; exact Calls.quiet_of (HM.out _)))
            go_wp2_with (first | (go_at_call 86; refine (HL.out _).mono ?_; rintro e w' ⟨rfl, rfl⟩) | (go_at_call 85; refine (HX.out _).mono ?_; rintro e w' ⟨rfl, rfl⟩))
            go_roundg g
            case rel => exact ⟨f', d2 + nq, rfl, hf2', by omega, HN2.out, by rw [HW.out, World.drewN_drewN]⟩
            case measure => omega
        · go_wp2
          rw [Exit.noGoto_ret]
          go_ret2
          exact ⟨f, true, d2, rfl, .inl ⟨rfl, hlt, fun i hi => HF.out _ (by omega) (by omega) (by omega), HN.out⟩, HW.out⟩
    · have hlt' : ¬ (f : Int) ≤ n - c := by omega
      go_wp2_with (go_at_call 83; refine (mlen_any m x n S _ HR.out).mono ?_; rintro e w' ⟨rfl, rfl⟩)
      rw [Exit.noGoto_ret]
      go_ret2
      exact ⟨0, false, d, rfl, .inr ⟨rfl, rfl, fun b hb => HN.out b (by omega)⟩, HW.out⟩
end Go.Proofs.YtccpmaahnfgkeaaGreatDoor
