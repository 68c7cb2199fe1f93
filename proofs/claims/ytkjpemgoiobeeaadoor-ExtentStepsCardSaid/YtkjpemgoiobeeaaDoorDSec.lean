/- What New, Len, Calls, check, sector of package disk, and slices.Clone, do. No condition but those that each statement names. -/
import Derived.Test.YtkjpemgoiobeeaaDoorDBase
namespace Go.Proofs.YtkjpemgoiobeeaaDoor
set_option maxRecDepth 1000000
open Go.ChangeShapes Go.WideShapes Go.ChangeAt Go.RowKit

theorem Tryd.info5 : (Tryd.prog.info? 5).map (fun i => (i.zero, i.size, i.bytes)) = some (some (.int .u8 0), 1, 1) := by kernel_rfl

theorem mk_bytes (w : World) (n : Nat) (hn : n ≤ 100000000) : (Instr.makeSlice 33 (.int .i64 (n : Int)) (.int .i64 (n : Int))).run Tryd.prog w = .ok (.slice (some ⟨w.heap.size, 0, none⟩) n n) (w.alloc (.cells (madeCells (Value.int .u8 0).cells n) 5)) := by
  obtain ⟨i0, hi, hz0, hz1, hz2⟩ := info_parts Tryd.info5
  have h := run_make (P := Tryd.prog) w 33 5 i0 (.int .u8 0) Tryd.underlying33 hi hz0 .i64 .i64 (n : Int) (n : Int) (by omega) (by omega) (by rw [hz2]; omega) (by omega)
  rw [hz1, Nat.mul_one, show ((n : Int)).toNat = n by omega] at h
  exact h
theorem made_cell (w : World) (n j : Nat) (h : j < n) : (w.alloc (.cells (madeCells (Value.int .u8 0).cells n) 5)).cell? ⟨w.heap.size, j, none⟩ = some (.int .u8 0) := by
  rw [World.cell?_alloc_at _ _ _ _ rfl]
  show (madeCells #[Value.int .u8 0] n)[j]? = _
  rw [← Array.getElem?_toList, toList_madeCells_one, List.getElem?_replicate, if_pos h]

theorem frozen_top (w : World) (cs : Array Value) (t : TypeId) (j : Nat) : (w.alloc (.cells cs t)).frozen? ⟨w.heap.size, j, none⟩ = false := by
  have h : (w.alloc (.cells cs t)).heap[w.heap.size]? = some (.cells cs t) := heap_alloc_new w _
  unfold World.frozen?
  simp only [h]
  simp
theorem frozen_new (w : World) (o o' : Obj) (j : Nat) (ho : ∃ cs t, o = .cells cs t) : ((w.alloc o).alloc o').frozen? ⟨w.heap.size, j, none⟩ = false := by
  obtain ⟨cs, t, rfl⟩ := ho
  rw [World.frozen?_of_block (w := w.alloc (.cells cs t)) (Below.heap_alloc _ _ _ (by simp))]
  exact frozen_top w cs t j

set_option maxHeartbeats 400000 in
theorem dnew_yes (n : Nat) (w : World) (hn : n ≤ 20000) :
    Calls Tryd.prog 25 #[.int .i64 n] w fun e w' => e = .returned (.tuple #[.pointer (some ⟨w.heap.size + 1, 0, none⟩), .int .i64 0]) ∧ DiskAt w' (w.heap.size + 1) w.heap.size n 0 0 (fun _ => 0) ∧ Below w.heap.size w w' := by
  have hm : (Instr.makeSlice 33 (.int .i64 ((n : Int) * 64)) (.int .i64 ((n : Int) * 64))).run Tryd.prog w = .ok (.slice (some ⟨w.heap.size, 0, none⟩) (64 * n) (64 * n)) (w.alloc (.cells (madeCells (Value.int .u8 0).cells (64 * n)) 5)) := by
    have := mk_bytes w (64 * n) (by omega)
    rwa [show ((64 * n : Nat) : Int) = (n : Int) * 64 by omega] at this
  go_enter Tryd.func25, Tryd.ntmps25
  go_wp2
  go_ret2
  refine ⟨rfl, ⟨?_, ?_, ?_, fun j hj => ?_, fun j => ?_, fun j => ?_, by omega, hn, fun _ => by omega, by simp, by simp; omega⟩, ((Below.refl _ _).alloc (Nat.le_refl _) _).alloc (by simp) _⟩
  · rw [World.cell?_alloc_at _ _ _ _ (by simp)]; rfl
  · rw [World.cell?_alloc_at _ _ _ _ (by simp)]; rfl
  · rw [World.cell?_alloc_at _ _ _ _ (by simp)]; rfl
  · rw [World.cell?_alloc_lt _ _ _ (by simp)]
    exact made_cell w (64 * n) j hj
  · exact frozen_new w _ _ j ⟨_, _, rfl⟩
  · have := frozen_top (w.alloc (.cells (madeCells (Value.int .u8 0).cells (64 * n)) 5)) #[Value.int .i64 0, Value.int .i64 0, Value.slice (some ⟨w.heap.size, 0, none⟩) (64 * n) (64 * n)] 83 j
    simp only [World.size_alloc] at this
    exact this

theorem dnew_no (n : Int) (w : World) (hn : n < 0 ∨ 20000 < n) :
    Calls Tryd.prog 25 #[.int .i64 n] w fun e w' => e = .returned (.tuple #[.pointer none, .int .i64 2]) ∧ w = w' := by
  rcases hn with h | h
  · go_enter Tryd.func25, Tryd.ntmps25
    go_wp2
    go_ret2
    exact ⟨rfl, rfl⟩
  · have h' : ¬ n < 0 := by omega
    go_enter Tryd.func25, Tryd.ntmps25
    go_wp2
    go_ret2
    exact ⟨rfl, rfl⟩

theorem len_nil (w : World) : Calls Tryd.prog 38 #[.pointer none] w fun e w' => e = .returned (.int .i64 0) ∧ w = w' := by
  go_enter Tryd.func38, Tryd.ntmps38
  go_wp2
  go_ret
  exact ⟨rfl, rfl⟩
theorem len_any (m x n r c : Nat) (D : Nat → Int) (w : World) (h : DiskAt w m x n r c D) :
    Calls Tryd.prog 38 #[.pointer (some ⟨m, 0, none⟩)] w fun e w' => e = .returned (.int .i64 n) ∧ w = w' := by
  have h0 := h.row
  have hs := h.small
  go_enter Tryd.func38, Tryd.ntmps38
  go_wp2
  go_ret
  exact ⟨by congr 2, rfl⟩

theorem sector_any (m x n r c : Nat) (D : Nat → Int) (i : Nat) (w : World) (h : DiskAt w m x n r c D) (hi : i < n) :
    Calls Tryd.prog 47 #[.pointer (some ⟨m, 0, none⟩), .int .i64 i] w fun e w' => e = .returned (.slice (some ⟨x, 64 * i, none⟩) 64 64) ∧ w = w' := by
  have h0 := h.row
  have hs := h.small
  have e1 : ((i : Int) * 64) = ((64 * i : Nat) : Int) := by omega
  go_enter Tryd.func47, Tryd.ntmps47
  go_wp2
  go_ret
  have e2 : (i + 1) * 64 - 64 * i = 64 := by omega
  exact ⟨show Ending.returned (.slice (some ⟨x, 64 * i, none⟩) ((i + 1) * 64 - 64 * i) ((i + 1) * 64 - 64 * i)) = _ by rw [e2], rfl⟩

theorem dcheck_nil (v : Value) (w : World) : Calls Tryd.prog 45 #[.pointer none, v] w fun e w' => e = .returned (.int .i64 1) ∧ w = w' := by
  go_enter Tryd.func45, Tryd.ntmps45
  go_wp2
  go_ret
  exact ⟨rfl, rfl⟩

/-- Is each of these numbers that of a sector? -/
def inB (n : Nat) (ls : List Int) : Bool := ls.all fun i => decide (0 ≤ i ∧ i < n)
/-- What check tells. -/
def chk (n : Nat) (ls : List Int) : Int := if inB n ls = true then 0 else 4
theorem chk_yes {n : Nat} {ls : List Int} (h : inB n ls = true) : chk n ls = 0 := by simp [chk, h]
theorem chk_no {n : Nat} {ls : List Int} (h : inB n ls = false) : chk n ls = 4 := by simp [chk, h]
theorem inB_snoc (n : Nat) (ls : List Int) (k : Nat) (h : k < ls.length) (h1 : inB n (ls.take k) = true) (h2 : 0 ≤ ls[k]) (h3 : ls[k] < n) : inB n (ls.take (k + 1)) = true := by
  rw [List.take_succ_eq_append_getElem h]
  unfold inB at h1 ⊢
  rw [List.all_append, h1]
  simp [h2, h3]
theorem inB_bad (n : Nat) (ls : List Int) (k : Nat) (h : k < ls.length) (h2 : ¬ (0 ≤ ls[k] ∧ ls[k] < n)) : inB n ls = false := by
  unfold inB
  rw [List.all_eq_false]
  exact ⟨ls[k], List.getElem_mem h, by simpa using h2⟩

set_option maxHeartbeats 1000000 in
theorem check_any {N : Nat → Prop} (m x n r c : Nat) (D : Nat → Int) (v : Value) (ls : List Int) (w : World) (h : DiskAt w m x n r c D) (hv : Ints N w v ls) (hl : ls.length ≤ 1000000) :
    Calls Tryd.prog 45 #[.pointer (some ⟨m, 0, none⟩), v] w fun e w' => e = .returned (.int .i64 (chk n ls)) ∧ w = w' := by
  have HV := Lib.hid hv
  have hs := h.small
  have HL := Lib.hid (len_any m x n r c D w h)
  obtain ⟨a, cp, rfl, hcp, _⟩ := hv
  rw [List.length_map] at HV hcp ⊢
  clear h
  go_enter Tryd.func45, Tryd.ntmps45
  go_wp2
  go_loop [11] (fun i => ∃ k : Nat, k ≤ ls.length ∧ i = .int .i64 k ∧ inB n (ls.take k) = true) (fun i => ls.length - (intOf i).toNat)
  case atStart => exact ⟨0, Nat.zero_le _, rfl, rfl⟩
  case round =>
    obtain ⟨k, hk, rfl, hin⟩ := hrel
    have HI := Lib.hid hin
    clear hin
    by_cases hlt : k < ls.length
    · obtain ⟨b, off, c', he, _, _, _, hc⟩ := HV.out.at_ (k := k) (by simpa using hlt)
      rw [List.length_map] at he
      injection he with e1 e2 e3
      subst e1 e3
      rw [List.getElem_map] at hc
      have HS := Lib.hid (inB_snoc n ls k hlt HI.out)
      have HB := Lib.hid (inB_bad n ls k hlt)
      generalize ls[k] = q at hc HS HB
      by_cases h1 : q < 0
      · go_wp2
        go_ret
        refine ⟨?_, rfl⟩
        rw [chk_no (HB.out (by omega))]
        rfl
      · by_cases h2 : (n : Int) ≤ q
        · go_wp2_with (go_at_call 38; refine HL.out.mono ?_; rintro e w' ⟨rfl, rfl⟩)
          go_ret
          refine ⟨?_, rfl⟩
          rw [chk_no (HB.out (by omega))]
          rfl
        · go_wp2_with (go_at_call 38; refine HL.out.mono ?_; rintro e w' ⟨rfl, rfl⟩)
          go_round
          case rel => exact ⟨k + 1, by omega, by go_num, HS.out (by omega) (by omega)⟩
          case measure => simp [intOf]; omega
    · go_wp2
      go_ret
      refine ⟨?_, rfl⟩
      have e := HI.out
      rw [List.take_of_length_le (by omega)] at e
      rw [chk_yes e]
      rfl
theorem one_ints {N : Nat → Prop} (w : World) (i : Int) (h : N w.heap.size) : Ints N (w.alloc (.cells #[.int .i64 i] 3)) (.slice (some ⟨w.heap.size, 0, none⟩) 1 1) [i] := by
  refine ⟨_, 1, rfl, by simp, .inr ⟨_, 0, rfl, h, fun j u hu => ?_⟩⟩
  rw [World.cell?_alloc_at _ _ _ _ rfl]
  match j, hu with
  | 0, hu => simpa using hu
  | j + 1, hu => simp at hu

/-- What gives new bytes. -/
def Gave (xs : List Int) (w : World) (e : Ending) (w' : World) : Prop := ∃ g c, e = .returned (.slice (some ⟨g, 0, none⟩) xs.length c) ∧ w'.ownsRow w.heap.size 5 1 (.slice (some ⟨g, 0, none⟩) xs.length c) xs.length (xs.map (Value.int .u8)) ∧ Below w.heap.size w w'

set_option maxHeartbeats 1000000 in
theorem clone_any {N : Nat → Prop} (b off c : Nat) (xs : List Int) (w : World) (hv : Bts N w (.slice (some ⟨b, off, none⟩) xs.length c) xs) (hl : xs.length ≤ 1000000) (h0 : 0 < xs.length) :
    Calls Tryd.prog 46 #[.slice (some ⟨b, off, none⟩) xs.length c] w (Gave xs w) := by
  obtain ⟨i0, hi, hz0, hz1, hz2⟩ := info_parts Tryd.info5
  have hsrc : Hid (∀ (o : Obj) j u, (xs.map (Value.int .u8))[j]? = some u → (w.alloc o).cell? ((⟨b, off, none⟩ : Addr).add j) = some u) := by
    obtain ⟨a', c', he, _, h⟩ := hv
    injection he with e1 e2 e3
    subst e1
    rcases h with h | ⟨b', off', he', _, h⟩
    · simp at h; subst h; simp at h0
    · injection he' with he'
      injection he' with e4 e5
      subst e4 e5
      intro o j u hu
      rw [add_plain, World.cell?_alloc_lt _ _ _ (World.block_lt_of_cell? _ _ (h j u hu))]
      exact h j u hu
  clear hv
  have hq := Lib.run_eql_slice_nil (P := Tryd.prog) w 33 5 (some ⟨b, off, none⟩) xs.length c 0 0 Tryd.underlying33
  go_enter Tryd.func46, Tryd.ntmps46
  go_wp2_with (at_builtin; refine wpList_append_own _ rfl _ _ 33 rfl w.heap.size 5 i0 (.int .u8 0) 1 1 Tryd.underlying33 hi hz0 hz1 hz2 rfl (by decide) _ 0 [] rfl ?c0 ⟨b, off, none⟩ xs.length c (xs.map (Value.int .u8)) rfl (by simp) ?c1 ?c2 ?c3 ?c4 ?c5 ?_)
  case c0 => exact World.ownsRow_lit w #[] 0 (Nat.le_refl _) (by decide) rfl
  case c1 => exact hsrc.out _
  case c2 => intro u hu; simp at hu; obtain ⟨x, _, rfl⟩ := hu; rfl
  case c3 => unfold maxLen; omega
  case c4 => omega
  case c5 => simp
  intro v' w1 hown' hgrow _
  have hb : Below w.heap.size w w1 := ((Below.refl _ _).alloc (Nat.le_refl _) _).grown hgrow (by simp) (fun k hk => by simp [Value.ownBlock] at hk; omega)
  have HO := Lib.hid hown'
  have HB := Lib.hid hb
  clear hown' hgrow hb
  go_wp2
  go_ret
  rcases HO.out.2 with ⟨_, h0'⟩ | ⟨g, cap, cur, rfl, _⟩
  · omega
  · exact ⟨g, cap, rfl, HO.out, HB.out⟩
end Go.Proofs.YtkjpemgoiobeeaaDoor
