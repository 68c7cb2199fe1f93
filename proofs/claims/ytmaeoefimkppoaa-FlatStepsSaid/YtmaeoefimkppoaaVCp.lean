/- What slices.Clone, and the laws' own Same, Copy and Spoil do. No condition but those that each statement names. -/
import Derived.Test.YtmaeoefimkppoaaVEq
namespace Go.Proofs.Ytmaeoefimkppoaa.Wd
open Go.ChangeShapes Go.WideShapes Go.ChangeAt Go.RowKit
set_option maxRecDepth 1000000

theorem nums_inj : ∀ {xs ys : List Int}, ByL xs → ByL ys → (xs.map fun n => UInt8.ofNat n.toNat) = (ys.map fun n => UInt8.ofNat n.toNat) → xs = ys
  | [], [], _, _, _ => rfl
  | [], _ :: _, _, _, h => by simp at h
  | _ :: _, [], _, _, h => by simp at h
  | x :: xs, y :: ys, hx, hy, h => by
    simp only [List.map_cons, List.cons.injEq] at h
    have h1 := hx x (by simp)
    have h2 := hy y (by simp)
    have h3 := congrArg UInt8.toNat h.1
    simp only [UInt8.toNat_ofNat'] at h3
    have : x = y := by omega
    rw [this, nums_inj (fun n hn => hx n (by simp [hn])) (fun n hn => hy n (by simp [hn])) h.2]
theorem str_neB {xs ys : List Int} (hx : ByL xs) (hy : ByL ys) (h : xs ≠ ys) : ((strOfNums xs).toList == (strOfNums ys).toList) = false := by
  rw [beq_eq_false_iff_ne, ByteArray.toList_eq, ByteArray.toList_eq]
  exact fun e => h (nums_inj hx hy e)
theorem same_any (v1 v2 : Value) (xs ys : List Int) (w : World) (h1 : Bts w v1 xs) (h2 : Bts w v2 ys) (hx : ByL xs) (hy : ByL ys) :
    Calls Try.prog 51 #[v1, v2] w fun e w' => e = .returned (.bool (decide (xs = ys))) ∧ w = w' := by
  by_cases he : xs = ys
  · subst he
    simp only [decide_true]
    exact same_eq v1 v2 xs w h1 h2
  · have c1 := conv_bts h1
    have c2 := conv_bts h2
    have hq := str_neB hx hy he
    simp only [he, decide_false]
    clear h1 h2
    go_enter Try.func51, Try.ntmps51
    go_wp2
    go_ret
    exact ⟨rfl, rfl⟩

theorem Try.info3 : (Try.prog.info? 3).map (fun i => (i.zero, i.size, i.bytes)) = some (some (.int .i64 0), 1, 8) := by kernel_rfl

/-- What gives new bytes, or new numbers, or none. -/
def GaveB (xs : List Int) (w : World) (e : Ending) (w' : World) : Prop := ∃ v, e = .returned v ∧ w'.ownsRow w.heap.size 5 1 v xs.length (xs.map (Value.int .u8)) ∧ Below w.heap.size w w'
def GaveI (xs : List Int) (w : World) (e : Ending) (w' : World) : Prop := ∃ v, e = .returned v ∧ w'.ownsRow w.heap.size 3 1 v xs.length (xs.map (Value.int .i64)) ∧ Below w.heap.size w w'


set_option maxHeartbeats 1000000 in
theorem cloneB_any (v : Value) (xs : List Int) (w : World) (hv : Bts w v xs) (hl : xs.length ≤ 1000000) :
    Calls Try.prog 68 #[v] w (GaveB xs w) := by
  obtain ⟨i0, hi, hz0, hz1, hz2⟩ := info_parts Try.info5
  obtain ⟨a, c, rfl, h⟩ := hv
  rcases a with _ | ⟨b, off, spot⟩
  · have h0 : xs = [] := by
      rcases h with h | ⟨b, off, ha, _⟩
      · exact h
      · cases ha
    subst h0
    have hq := Lib.run_eql_slice_nil (P := Try.prog) w 31 5 none 0 c 0 0 Try.underlying31
    go_enter Try.func68, Try.ntmps68
    go_wp2
    go_ret
    exact ⟨_, rfl, World.ownsRow_nil _ _ _ _, Below.refl _ _⟩
  · have hsrc : Hid (∀ (o : Obj) j u, (xs.map (Value.int .u8))[j]? = some u → (w.alloc o).cell? ((⟨b, off, spot⟩ : Addr).add j) = some u) := by
      rcases h with rfl | ⟨b', off', ha, h⟩
      · intro o j u hu; simp at hu
      · injection ha with ha
        injection ha with e1 e2 e3
        subst e1 e2 e3
        intro o j u hu
        have hj : j < xs.length := by
          have := (List.getElem?_eq_some_iff.1 hu).1; simpa using this
        have hu' : u = .int .u8 (xs.getD j 0) := by
          rw [List.getElem?_map, List.getElem?_eq_getElem hj] at hu
          simp [List.getD, List.getElem?_eq_getElem hj] at hu ⊢
          exact hu.symm
        rw [add_plain, hu', World.cell?_alloc_lt _ _ _ (World.block_lt_of_cell? _ _ (h j hj))]
        exact h j hj
    clear h
    have hq := Lib.run_eql_slice_nil (P := Try.prog) w 31 5 (some ⟨b, off, spot⟩) xs.length c 0 0 Try.underlying31
    go_enter Try.func68, Try.ntmps68
    go_wp2_with (at_builtin; refine wpList_append_own _ rfl _ _ 31 rfl w.heap.size 5 i0 (.int .u8 0) 1 1 Try.underlying31 hi hz0 hz1 hz2 rfl (by decide) _ 0 [] rfl ?c0 ⟨b, off, spot⟩ xs.length c (xs.map (Value.int .u8)) rfl (by simp) ?c1 ?c2 ?c3 ?c4 ?c5 ?_)
    case c0 => exact World.ownsRow_lit w #[] 0 (Nat.le_refl _) (by decide) rfl
    case c1 => exact hsrc.out _
    case c2 => intro u hu; simp at hu; obtain ⟨x, _, rfl⟩ := hu; rfl
    case c3 => unfold maxLen; omega
    case c4 => omega
    case c5 => simp
    intro v' w1 hown' hgrow _
    have hb : Below w.heap.size w w1 := ((Below.refl _ _).alloc (Nat.le_refl _) _).grown hgrow (by simp) (fun k hk => by simp [Value.ownBlock] at hk; omega)
    have HO := Lib.hid hown'
    have HB := Lib.hid hb
    clear hown' hgrow hb
    go_wp2
    go_ret
    exact ⟨v', rfl, by simpa using HO.out, HB.out⟩

set_option maxHeartbeats 1000000 in
theorem cloneI_any (v : Value) (xs : List Int) (w : World) (hv : Ints w v xs) (hl : xs.length ≤ 1000000) :
    Calls Try.prog 67 #[v] w (GaveI xs w) := by
  obtain ⟨i0, hi, hz0, hz1, hz2⟩ := info_parts Try.info3
  obtain ⟨a, c, rfl, h⟩ := hv
  rcases a with _ | ⟨b, off, spot⟩
  · have h0 : xs = [] := by
      rcases h with h | ⟨b, off, ha, _⟩
      · exact h
      · cases ha
    subst h0
    have hq := Lib.run_eql_slice_nil (P := Try.prog) w 30 3 none 0 c 0 0 Try.underlying30
    go_enter Try.func67, Try.ntmps67
    go_wp2
    go_ret
    exact ⟨_, rfl, World.ownsRow_nil _ _ _ _, Below.refl _ _⟩
  · have hsrc : Hid (∀ (o : Obj) j u, (xs.map (Value.int .i64))[j]? = some u → (w.alloc o).cell? ((⟨b, off, spot⟩ : Addr).add j) = some u) := by
      rcases h with rfl | ⟨b', off', ha, h⟩
      · intro o j u hu; simp at hu
      · injection ha with ha
        injection ha with e1 e2 e3
        subst e1 e2 e3
        intro o j u hu
        have hj : j < xs.length := by
          have := (List.getElem?_eq_some_iff.1 hu).1; simpa using this
        have hu' : u = .int .i64 (xs.getD j 0) := by
          rw [List.getElem?_map, List.getElem?_eq_getElem hj] at hu
          simp [List.getD, List.getElem?_eq_getElem hj] at hu ⊢
          exact hu.symm
        rw [add_plain, hu', World.cell?_alloc_lt _ _ _ (World.block_lt_of_cell? _ _ (h j hj))]
        exact h j hj
    clear h
    have hq := Lib.run_eql_slice_nil (P := Try.prog) w 30 3 (some ⟨b, off, spot⟩) xs.length c 0 0 Try.underlying30
    go_enter Try.func67, Try.ntmps67
    go_wp2_with (at_builtin; refine wpList_append_own _ rfl _ _ 30 rfl w.heap.size 3 i0 (.int .i64 0) 1 8 Try.underlying30 hi hz0 hz1 hz2 rfl (by decide) _ 0 [] rfl ?c0 ⟨b, off, spot⟩ xs.length c (xs.map (Value.int .i64)) rfl (by simp) ?c1 ?c2 ?c3 ?c4 ?c5 ?_)
    case c0 => exact World.ownsRow_lit w #[] 0 (Nat.le_refl _) (by decide) rfl
    case c1 => exact hsrc.out _
    case c2 => intro u hu; simp at hu; obtain ⟨x, _, rfl⟩ := hu; rfl
    case c3 => unfold maxLen; omega
    case c4 => omega
    case c5 => simp
    intro v' w1 hown' hgrow _
    have hb : Below w.heap.size w w1 := ((Below.refl _ _).alloc (Nat.le_refl _) _).grown hgrow (by simp) (fun k hk => by simp [Value.ownBlock] at hk; omega)
    have HO := Lib.hid hown'
    have HB := Lib.hid hb
    clear hown' hgrow hb
    go_wp2
    go_ret
    exact ⟨v', rfl, by simpa using HO.out, HB.out⟩

set_option maxHeartbeats 1000000 in
theorem copy_any (v : Value) (xs : List Int) (w : World) (hv : Bts w v xs) (hl : xs.length ≤ 1000000) :
    Calls Try.prog 79 #[v] w (GaveB xs w) := by
  obtain ⟨i0, hi, hz0, hz1, hz2⟩ := info_parts Try.info5
  obtain ⟨a, c, rfl, h⟩ := hv
  rcases a with _ | ⟨b, off, spot⟩
  · have h0 : xs = [] := by
      rcases h with h | ⟨b, off, ha, _⟩
      · exact h
      · cases ha
    subst h0
    have hr : ∀ ty, (Builtin.append_ #[31, 31] ty #[.slice none 0 0, .slice none 0 c]).run Try.prog w = .ok (.slice none 0 0) w := fun ty => by
      simp [Builtin.append_, run_underlying Try.underlying31, sizeOf, typeInfo, hi, Builtin.lenOf, Builtin.firstCells]
    go_enter Try.func79, Try.ntmps79
    go_wp2
    go_ret
    exact ⟨_, rfl, World.ownsRow_nil _ _ _ _, Below.refl _ _⟩
  · have hsrc : Hid (∀ j u, (xs.map (Value.int .u8))[j]? = some u → w.cell? ((⟨b, off, spot⟩ : Addr).add j) = some u) := by
      rcases h with rfl | ⟨b', off', ha, h⟩
      · intro j u hu; simp at hu
      · injection ha with ha
        injection ha with e1 e2 e3
        subst e1 e2 e3
        intro j u hu
        have hj : j < xs.length := by
          have := (List.getElem?_eq_some_iff.1 hu).1; simpa using this
        have hu' : u = .int .u8 (xs.getD j 0) := by
          rw [List.getElem?_map, List.getElem?_eq_getElem hj] at hu
          simp [List.getD, List.getElem?_eq_getElem hj] at hu ⊢
          exact hu.symm
        rw [add_plain, hu']
        exact h j hj
    clear h
    go_enter Try.func79, Try.ntmps79
    go_wp2_with (at_builtin; refine wpList_append_own _ rfl _ _ 31 rfl w.heap.size 5 i0 (.int .u8 0) 1 1 Try.underlying31 hi hz0 hz1 hz2 rfl (by decide) _ 0 [] rfl ?c0 ⟨b, off, spot⟩ xs.length c (xs.map (Value.int .u8)) rfl (by simp) ?c1 ?c2 ?c3 ?c4 ?c5 ?_)
    case c0 => exact World.ownsRow_nil _ _ _ _
    case c1 => exact hsrc.out
    case c2 => intro u hu; simp at hu; obtain ⟨x, _, rfl⟩ := hu; rfl
    case c3 => unfold maxLen; omega
    case c4 => omega
    case c5 => simp
    intro v' w1 hown' hgrow _
    have hb : Below w.heap.size w w1 := (Below.refl _ _).grown hgrow (by simp) (fun k hk => by simp [Value.ownBlock] at hk)
    have HO := Lib.hid hown'
    have HB := Lib.hid hb
    clear hown' hgrow hb
    go_wp2
    go_ret
    exact ⟨v', rfl, by simpa using HO.out, HB.out⟩
end Go.Proofs.Ytmaeoefimkppoaa.Wd
