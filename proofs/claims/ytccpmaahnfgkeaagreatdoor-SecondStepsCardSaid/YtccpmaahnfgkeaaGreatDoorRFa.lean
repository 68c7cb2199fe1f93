/- The chapter's rows of layer 4 in memory, and what Used, Find and First of the chapter tell. -/
import Derived.Test.YtccpmaahnfgkeaaGreatDoorSLay
namespace Go.Proofs.YtccpmaahnfgkeaaGreatDoor.R4
set_option maxRecDepth 1000000
open Go.ChangeShapes Go.WideShapes Go.ChangeAt Go.RowKit

theorem Tryz.info47 : (Tryz.prog.info? 47).map (fun i => (i.zero, i.size, i.bytes)) = some (some (.agg #[.int .i64 0, .int .i64 0, .int .i64 0]), 3, 24) := by kernel_rfl
theorem total_le {n : Nat} {R : List Row} (h : Good n R) : total R ≤ n := by rw [← cnt_total h]; exact cnt_le _ _ _
theorem len_total : ∀ (R : List Row), R.length ≤ total R
  | [] => Nat.le_refl _
  | r :: R => by
    have := len_total R
    have h1 := len_pos r
    simp [total] at this ⊢
    omega
theorem full_empty {n q a : Nat} (h : FirstIs (tk []) n q a false) : n < q := by
  rcases h with ⟨h, _⟩ | ⟨_, _, h⟩
  · cases h
  · rcases Nat.lt_or_ge n q with h1 | h1
    · exact h1
    · obtain ⟨k, _, e⟩ := h 0 (by omega)
      cases e

/-- A row, and the slice value of its bytes. -/
abbrev RV := Row × Value
def cells4 (p : RV) : List Value := [.int .i64 p.1.1, .int .i64 (len p.1), .int .i64 p.1.2.length, p.2]
def flat4 (L : List RV) : List Value := L.flatMap cells4
theorem flat4_cons (p : RV) (L : List RV) : flat4 (p :: L) = cells4 p ++ flat4 L := by simp [flat4]
theorem flat4_append (L M : List RV) : flat4 (L ++ M) = flat4 L ++ flat4 M := by simp [flat4]
theorem flat4_len (L : List RV) : (flat4 L).length = L.length * 4 := by
  induction L with
  | nil => rfl
  | cons x xs ih => rw [flat4_cons]; simp [cells4, ih]; omega
theorem flat4_get : ∀ (L : List RV) (i : Nat) (p : RV), L[i]? = some p → (flat4 L)[i * 4]? = some (.int .i64 p.1.1) ∧ (flat4 L)[i * 4 + 1]? = some (.int .i64 (len p.1)) ∧ (flat4 L)[i * 4 + 2]? = some (.int .i64 p.1.2.length) ∧ (flat4 L)[i * 4 + 3]? = some p.2
  | [], i, p, h => by simp at h
  | y :: L, 0, p, h => by
    simp at h
    subst h
    rw [flat4_cons]
    simp [cells4]
  | y :: L, i + 1, p, h => by
    have ih := flat4_get L i p (by simpa using h)
    rw [flat4_cons]
    have e : ∀ k, (cells4 y ++ flat4 L)[(i + 1) * 4 + k]? = (flat4 L)[i * 4 + k]? := fun k => by
      rw [List.getElem?_append_right (by simp [cells4]; omega)]
      congr 1
      simp [cells4]
      omega
    exact ⟨(e 0).trans ih.1, (e 1).trans ih.2.1, (e 2).trans ih.2.2.1, (e 3).trans ih.2.2.2⟩

/-- The slice value v holds the rows L; their bytes lie in blocks of the kind N, as the rows do. -/
def RowsV (N : Nat → Prop) (w : World) (v : Value) (L : List RV) : Prop :=
  ∃ a c, v = .slice a L.length c ∧ L.length ≤ c ∧ (∀ p ∈ L, Bts N w p.2 p.1.2) ∧
    (L = [] ∨ ∃ b off, a = some ⟨b, off, none⟩ ∧ N b ∧ ∀ j u, (flat4 L)[j]? = some u → w.cell? ⟨b, off + j, none⟩ = some u)
theorem RowsV.only {N F : Nat → Prop} {w w' : World} {v : Value} {L : List RV} (h : RowsV N w v L) (o : Only F w w') (hF : ∀ b, N b → ¬ F b) : RowsV N w' v L := by
  obtain ⟨a, c, hv, hc, hb, h⟩ := h
  refine ⟨a, c, hv, hc, fun p hp => (hb p hp).only o hF, h.imp id ?_⟩
  rintro ⟨b, off, ha, hN, h⟩
  exact ⟨b, off, ha, hN, fun j u hu => (o.cell (p := ⟨b, off + j, none⟩) (World.block_lt_of_cell? _ _ (h j u hu)) (hF b hN)).trans (h j u hu)⟩
theorem RowsV.fresh {N : Nat → Prop} {w w' : World} {v : Value} {L : List RV} (h : RowsV N w v L) (o : Below w.heap.size w w') : RowsV N w' v L :=
  h.only (F := fun _ => False) (Only.of_below o) (fun _ _ h => h)
theorem RowsV.heap {N : Nat → Prop} {w w' : World} {v : Value} {L : List RV} (h : RowsV N w v L) (e : w'.heap = w.heap) : RowsV N w' v L := by
  obtain ⟨a, c, hv, hc, hb, h⟩ := h
  refine ⟨a, c, hv, hc, fun p hp => (hb p hp).heap e, h.imp id ?_⟩
  rintro ⟨b, off, ha, hN, h⟩
  exact ⟨b, off, ha, hN, fun j u hu => (World.cell?_of_block (w := w) (by rw [e])).trans (h j u hu)⟩
theorem RowsV.kind {N M : Nat → Prop} {w : World} {v : Value} {L : List RV} (h : RowsV N w v L) (hM : ∀ b, b < w.heap.size → N b → M b) : RowsV M w v L := by
  obtain ⟨a, c, hv, hc, hb, h⟩ := h
  by_cases hL : L = []
  · exact ⟨a, c, hv, hc, fun p hp => (by rw [hL] at hp; cases hp), .inl hL⟩
  · obtain ⟨b, off, ha, hN, h⟩ := h.resolve_left hL
    refine ⟨a, c, hv, hc, fun p hp => (hb p hp).kind hM, .inr ⟨b, off, ha, hM b ?_ hN, h⟩⟩
    obtain ⟨p, t, rfl⟩ : ∃ p t, L = p :: t := by
      cases L with
      | nil => exact absurd rfl hL
      | cons p t => exact ⟨p, t, rfl⟩
    exact World.block_lt_of_cell? _ _ (h 0 (.int .i64 p.1.1) (by rw [flat4_cons]; rfl))
theorem RowsV.at_ {N : Nat → Prop} {w : World} {v : Value} {L : List RV} (h : RowsV N w v L) (i : Nat) (hi : i < L.length) :
    ∃ b off c, v = .slice (some ⟨b, off, none⟩) L.length c ∧ N b ∧ w.cell? ⟨b, off + i * 4, none⟩ = some (.int .i64 L[i].1.1) ∧ w.cell? ⟨b, off + i * 4 + 1, none⟩ = some (.int .i64 (len L[i].1)) ∧
      w.cell? ⟨b, off + i * 4 + 2, none⟩ = some (.int .i64 L[i].1.2.length) ∧ w.cell? ⟨b, off + i * 4 + 3, none⟩ = some L[i].2 ∧ Bts N w L[i].2 L[i].1.2 := by
  obtain ⟨a, c, rfl, hc, hb, h⟩ := h
  obtain ⟨b, off, rfl, hN, h⟩ := h.resolve_left (fun e => by rw [e] at hi; simp at hi)
  obtain ⟨h1, h2, h3, h4⟩ := flat4_get L i L[i] (List.getElem?_eq_getElem hi)
  exact ⟨b, off, c, rfl, hN, h _ _ h1, h _ _ h2, h _ _ h3, h _ _ h4, hb _ (List.getElem_mem hi)⟩
theorem RowsV.form {N : Nat → Prop} {w : World} {v : Value} {L : List RV} (h : RowsV N w v L) : ∃ a c, v = .slice a L.length c := by
  obtain ⟨a, c, hv, _⟩ := h
  exact ⟨a, c, hv⟩

def rowsOf (L : List RV) : List Row := L.map (·.1)

/-- The chapter's Used. -/
theorem refused_any {N : Nat → Prop} (v : Value) (L : List RV) (w : World) (h : RowsV N w v L) (ht : total (rowsOf L) ≤ 1000000) (hl : L.length ≤ 1000000) :
    Calls Tryz.prog 40 #[v] w fun e w' => e = .returned (.int .i64 (total (rowsOf L))) ∧ w = w' := by
  have HV := Lib.hid h
  obtain ⟨a, c, rfl⟩ := h.form
  have hmono : ∀ k, total (rowsOf (L.take k)) ≤ total (rowsOf L) := fun k => by
    have e : rowsOf L = rowsOf (L.take k) ++ rowsOf (L.drop k) := by unfold rowsOf; rw [← List.map_append, List.take_append_drop]
    rw [e]
    simp [total]
  have HM := Lib.hid hmono
  have HE : Hid (rowsOf (L.take L.length) = rowsOf L) := by show _ = _; rw [List.take_length]
  obtain ⟨T, hT⟩ : ∃ T, total (rowsOf L) = T := ⟨_, rfl⟩
  have HT := Lib.hid hT
  rw [hT] at ht HM ⊢
  clear h hmono hT
  go_enter Tryz.func40, Tryz.ntmps40
  go_wp2
  go_loop [3, 4] (fun t i => ∃ k : Nat, k ≤ L.length ∧ i = .int .i64 k ∧ t = .int .i64 (total (rowsOf (L.take k)))) (fun _ i => L.length - (intOf i).toNat)
  case atStart => exact ⟨0, Nat.zero_le _, rfl, rfl⟩
  case round =>
    obtain ⟨k, hk, rfl, rfl⟩ := hrel
    by_cases hlt : k < L.length
    · obtain ⟨b, off, c', he, _, _, h2, _⟩ := HV.out.at_ k hlt
      injection he with e1 e2 e3
      subst e1 e3
      have hle := HM.out (k + 1)
      have HS : Hid (total (rowsOf (L.take (k + 1))) = total (rowsOf (L.take k)) + len L[k].1) := by
        show _ = _
        rw [List.take_succ_eq_append_getElem hlt]
        unfold rowsOf
        rw [List.map_append]
        exact total_add _ _
      rw [HS.out] at hle
      generalize len L[k].1 = q at h2 HS hle
      generalize total (rowsOf (L.take k)) = t at HS hle ⊢
      go_wp2
      go_round
      case rel => exact ⟨k + 1, by omega, by go_num, by rw [HS.out]; go_num⟩
      case measure => simp [intOf]; omega
    · obtain rfl : k = L.length := by omega
      rw [HE.out, HT.out]
      go_wp2
      go_ret
      exact ⟨rfl, rfl⟩

/-- Where x stands among the rows. -/
def FindIs (R : List Row) (x : Ext) (k : Int) : Prop := (k = -1 ∧ isX R x = false) ∨ ∃ i : Nat, k = i ∧ ∃ h : i < R.length, ext R[i] = x
theorem ext_ne {r : Row} {f q z : Int} (h : ext r ≠ ⟨f, q, z⟩) : (((r.1 : Int) == f) = false) ∨ (((r.1 : Int) = f) ∧ ((len r : Int) == q) = false) ∨ (((r.1 : Int) = f) ∧ ((len r : Int) = q) ∧ ((r.2.length : Int) == z) = false) := by
  by_cases h1 : (r.1 : Int) = f
  · by_cases h2 : (len r : Int) = q
    · refine .inr (.inr ⟨h1, h2, ?_⟩)
      rw [beq_eq_false_iff_ne]
      intro h3
      exact h (by simp [ext, h1, h2, h3])
    · exact .inr (.inl ⟨h1, by rwa [beq_eq_false_iff_ne]⟩)
  · exact .inl (by rwa [beq_eq_false_iff_ne])

def FindPost (L : List RV) (f q z : Int) (w : World) (e : Ending) (w' : World) : Prop :=
  ∃ k, e = .returned (.int .i64 k) ∧ FindIs (rowsOf L) ⟨f, q, z⟩ k ∧ Below w.heap.size w w'

set_option maxHeartbeats 2000000 in
theorem find_any {N : Nat → Prop} (v : Value) (L : List RV) (f q z : Int) (w : World) (h : RowsV N w v L) (hl : L.length ≤ 1000000) :
    Calls Tryz.prog 69 #[v, .agg #[.int .i64 f, .int .i64 q, .int .i64 z]] w (FindPost L f q z w) := by
  have BW : Below w.heap.size w (w.alloc (.cells #[.int .i64 f, .int .i64 q, .int .i64 z] 47)) := (Below.refl _ _).alloc (Nat.le_refl _) _
  have HV := Lib.hid (h.fresh BW)
  have HX := Lib.hid (box3_new w f q z 47)
  have HB := Lib.hid BW
  obtain ⟨a, c, rfl⟩ := h.form
  obtain ⟨p3, hp3⟩ : ∃ p, w.heap.size = p := ⟨_, rfl⟩
  rw [hp3] at HX
  have HP := Lib.hid hp3
  clear h BW
  go_enter Tryz.func69, Tryz.ntmps69
  go_wp2
  clear hp3
  generalize w.alloc (.cells #[.int .i64 f, .int .i64 q, .int .i64 z] 47) = w0 at HV HX HB ⊢
  go_loopw [5] (fun i wx => ∃ k d : Nat, k ≤ L.length ∧ i = .int .i64 k ∧ (∀ j (hj : j < L.length), j < k → ext L[j].1 ≠ ⟨f, q, z⟩) ∧ wx = w0.drewN d) (fun i _ => L.length - (intOf i).toNat)
  case atStart => exact ⟨0, 0, Nat.zero_le _, rfl, fun j _ hj => by omega, rfl⟩
  case round =>
    obtain ⟨k, d, hk, rfl, hall, hw⟩ := hrel
    have HALL := Lib.hid hall
    have HW := Lib.hid hw
    have hbd : Below w0.heap.size w0 wr := by rw [hw]; exact below_drewN _ _ _
    have HVr := HV.out.fresh hbd
    obtain ⟨x1, x2, x3, _, _⟩ := HX.out.fresh hbd
    have HBr : Hid (Below w.heap.size w wr) := HB.out.trans (hbd.mono HB.out.size)
    clear hall hw hbd
    by_cases hlt : k < L.length
    · obtain ⟨b, off, c', he, _, h1, h2, h3, _⟩ := HVr.at_ k hlt
      injection he with e1 e2 e3
      subst e1 e3
      clear HVr
      have hlt' : (k : Int) < L.length := by omega
      by_cases hx : ext L[k].1 = ⟨f, q, z⟩
      · have HF : Hid (FindIs (rowsOf L) ⟨f, q, z⟩ (k : Int)) := .inr ⟨k, rfl, by simpa [rowsOf] using hlt, by simpa [rowsOf] using hx⟩
        have e1 := congrArg Ext.f hx
        have e2 := congrArg Ext.n hx
        have e3 := congrArg Ext.s hx
        dsimp only [ext] at e1 e2 e3
        rw [e1] at h1
        rw [e2] at h2
        rw [e3] at h3
        clear hx e1 e2 e3
        go_wp2
        go_quiet (fail)
        go_wp2
        go_ret
        exact ⟨_, rfl, HF.out, ⟨HBr.out.os, HBr.out.tape, HBr.out.output, HBr.out.size, HBr.out.block⟩⟩
      · have HNX := Lib.hid hx
        rcases ext_ne hx with t1 | ⟨t0, t1⟩ | ⟨t0, t2, t1⟩
        · generalize (L[k].1.1 : Int) = y1 at h1 t1
          generalize (len L[k].1 : Int) = y2 at h2
          generalize (L[k].1.2.length : Int) = y3 at h3
          clear hx
          go_wp2
          go_quiet (fail)
          go_wp2
          go_roundw
          case rel => exact ⟨k + 1, d + nq, by omega, by go_num, fun j hj hjk => if e : j = k then by subst e; exact HNX.out else HALL.out j hj (by omega), by rw [HW.out, World.drewN_drewN]⟩
          case measure => simp [intOf]; omega
        · rw [t0] at h1
          generalize (len L[k].1 : Int) = y2 at h2 t1
          generalize (L[k].1.2.length : Int) = y3 at h3
          clear hx t0
          go_wp2
          go_quiet (fail)
          go_wp2
          go_roundw
          case rel => exact ⟨k + 1, d + nq, by omega, by go_num, fun j hj hjk => if e : j = k then by subst e; exact HNX.out else HALL.out j hj (by omega), by rw [HW.out, World.drewN_drewN]⟩
          case measure => simp [intOf]; omega
        · rw [t0] at h1
          rw [t2] at h2
          generalize (L[k].1.2.length : Int) = y3 at h3 t1
          clear hx t0 t2
          go_wp2
          go_quiet (fail)
          go_wp2
          go_roundw
          case rel => exact ⟨k + 1, d + nq, by omega, by go_num, fun j hj hjk => if e : j = k then by subst e; exact HNX.out else HALL.out j hj (by omega), by rw [HW.out, World.drewN_drewN]⟩
          case measure => simp [intOf]; omega
    · clear HVr
      go_wp2
      go_ret
      refine ⟨_, rfl, .inl ⟨rfl, ?_⟩, HBr.out⟩
      rw [← Bool.not_eq_true, isX_iff]
      rintro ⟨r, hr, he⟩
      obtain ⟨p, hp, rfl⟩ := List.mem_map.1 hr
      obtain ⟨j, hj, rfl⟩ := List.getElem_of_mem hp
      exact HALL.out j hj (by omega) he

/-- Does the row meet the c sectors from f on? -/
def meets (f c : Nat) (r : Row) : Bool := decide (f < r.1 + len r ∧ r.1 < f + c)
theorem meets_false {f c : Nat} {r : Row} (h : meets f c r = false) : ∀ k, k < c → ¬ (r.1 ≤ f + k ∧ f + k < r.1 + len r) := by
  simp [meets] at h
  intro k hk h2
  have := h (by omega)
  omega
theorem meets_true {f c : Nat} {r : Row} (hc : 1 ≤ c) (h : meets f c r = true) : ∃ k, k < c ∧ r.1 ≤ f + k ∧ f + k < r.1 + len r := by
  simp [meets] at h
  have := len_pos r
  rcases Nat.lt_or_ge f r.1 with h1 | h1
  · exact ⟨r.1 - f, by omega, by omega, by omega⟩
  · exact ⟨0, by omega, by omega, by omega⟩
theorem free_of_meets {R : List Row} {f c : Nat} (h : R.any (meets f c) = false) : ∀ k, k < c → tk R (f + k) = false := by
  intro k hk
  rw [tk_false]
  intro r hr
  have := List.any_eq_false.1 h r hr
  exact meets_false (by simpa using this) k hk
theorem met_of_meets {R : List Row} {f c : Nat} (hc : 1 ≤ c) (h : R.any (meets f c) = true) : ∃ k, k < c ∧ tk R (f + k) = true := by
  obtain ⟨r, hr, h1⟩ := List.any_eq_true.1 h
  obtain ⟨k, hk, h2⟩ := meets_true hc h1
  exact ⟨k, hk, tk_iff.2 ⟨r, hr, h2⟩⟩

/-- Where First of the chapter finds room. -/
def RefFirst (R : List Row) (n c : Nat) (w : World) (e : Ending) (w' : World) : Prop :=
  ∃ (a : Nat) (ok : Bool), e = .returned (.int .i64 (if ok = true then (a : Int) else -1)) ∧ FirstIs (tk R) n c a ok ∧ Below w.heap.size w w'

set_option maxHeartbeats 4000000 in
theorem reffirst_any {N : Nat → Prop} (v : Value) (L : List RV) (n c : Nat) (w : World) (h : RowsV N w v L) (hl : L.length ≤ 1000000) (hn : n ≤ 1000000) (hc1 : 1 ≤ c) (hc : c ≤ 1000000000000000000) (hr : ∀ p ∈ L, p.1.1 + len p.1 ≤ 1000000) :
    Calls Tryz.prog 59 #[v, .int .i64 n, .int .i64 c] w (RefFirst (rowsOf L) n c w) := by
  have HV := Lib.hid h
  have HR := Lib.hid hr
  obtain ⟨a, cp, rfl⟩ := h.form
  clear h hr
  go_enter Tryz.func59, Tryz.ntmps59
  go_wp2
  go_loopw [7] (fun i wx => ∃ f d : Nat, i = .int .i64 f ∧ f ≤ n + 1 ∧ (∀ b, b < f → ∃ k, k < c ∧ tk (rowsOf L) (b + k) = true) ∧ wx = w.drewN d) (fun i _ => n + 2 - (intOf i).toNat)
  case atStart => exact ⟨0, 0, rfl, by omega, fun b hb => by omega, rfl⟩
  case round =>
    obtain ⟨f, d, rfl, hf, hno, hw⟩ := hrel
    have HNO := Lib.hid hno
    have HW := Lib.hid hw
    clear hno hw
    by_cases hlt : f + c ≤ n
    · have hlt' : (f : Int) + c ≤ n := by omega
      go_wp2
      go_loopw [8, 9] (fun o i wx => ∃ j d : Nat, j ≤ L.length ∧ i = .int .i64 j ∧ o = .bool (!((rowsOf (L.take j)).any (meets f c))) ∧ wx = w.drewN d) (fun _ i _ => L.length - (intOf i).toNat)
      case atStart => exact ⟨0, d, Nat.zero_le _, rfl, rfl, HW.out⟩
      case round =>
        obtain ⟨j, d2, hj, rfl, rfl, hw⟩ := hrel
        have HW2 := Lib.hid hw
        by_cases hjl : j < L.length
        · have HVr : RowsV N wr (.slice a L.length cp) L := HV.out.heap (by rw [hw]; rfl)
          obtain ⟨b, off, c', he, _, h1, h2, _⟩ := HVr.at_ j hjl
          injection he with e1 e2 e3
          subst e1 e3
          have hpr := HR.out L[j] (List.getElem_mem hjl)
          have hjl' : (j : Int) < L.length := by omega
          have HS : Hid ((rowsOf (L.take (j + 1))).any (meets f c) = ((rowsOf (L.take j)).any (meets f c) || meets f c L[j].1)) := by
            show _ = _
            rw [List.take_succ_eq_append_getElem hjl]
            unfold rowsOf
            rw [List.map_append, List.any_append]
            simp
          generalize (rowsOf (L.take j)).any (meets f c) = o at HS ⊢
          have HMM : Hid (meets f c L[j].1 = decide (f < L[j].1.1 + len L[j].1 ∧ L[j].1.1 < f + c)) := rfl
          generalize meets f c L[j].1 = mm at HS HMM
          generalize L[j].1.1 = fr at h1 HMM hpr
          generalize len L[j].1 = lr at h2 HMM hpr
          clear hw HVr
          by_cases t1 : f < fr + lr
          · have t1' : (f : Int) < fr + lr := by omega
            by_cases t2 : fr < f + c
            · have t2' : (fr : Int) < f + c := by omega
              go_wp2
              go_quiet (fail)
              go_wp2
              go_roundw
              case rel => exact ⟨j + 1, d2 + nq, by omega, by go_num, by rw [HS.out, HMM.out]; simp [t1, t2], by rw [HW2.out, World.drewN_drewN]⟩
              case measure => simp [intOf]; omega
            · have t2' : decide ((fr : Int) < f + c) = false := by simp; omega
              go_wp2
              go_quiet (fail)
              go_wp2
              go_roundw
              case rel => exact ⟨j + 1, d2 + nq, by omega, by go_num, by rw [HS.out, HMM.out]; simp [t1, t2], by rw [HW2.out, World.drewN_drewN]⟩
              case measure => simp [intOf]; omega
          · have t1' : decide ((f : Int) < fr + lr) = false := by simp; omega
            go_wp2
            go_quiet (fail)
            go_wp2
            go_roundw
            case rel => exact ⟨j + 1, d2 + nq, by omega, by go_num, by rw [HS.out, HMM.out]; simp [t1], by rw [HW2.out, World.drewN_drewN]⟩
            case measure => simp [intOf]; omega
        · have HE : Hid (rowsOf (L.take j) = rowsOf L) := by show _ = _; rw [List.take_of_length_le (by omega)]
          have HB : Hid (Below w.heap.size w wr) := by show Below _ _ _; rw [hw]; exact below_drewN _ _ _
          rw [HE.out]
          obtain ⟨o, ho⟩ : ∃ o, (rowsOf L).any (meets f c) = o := ⟨_, rfl⟩
          have HOO := Lib.hid ho
          rw [ho]
          clear ho hw
          cases o
          · go_wp2
            go_ret
            exact ⟨f, true, rfl, .inl ⟨rfl, hlt, free_of_meets HOO.out, HNO.out⟩, HB.out⟩
          · go_wp2
            go_roundw
            case rel => exact ⟨f + 1, d2, by go_num, by omega, fun b hb => if e : b = f then by subst e; exact met_of_meets hc1 HOO.out else HNO.out b (by omega), HW2.out⟩
            case measure => simp [intOf]; omega
    · have hlt' : ¬ (f : Int) + c ≤ n := by omega
      have HB : Hid (Below w.heap.size w wr) := by show Below _ _ _; rw [HW.out]; exact below_drewN _ _ _
      go_wp2
      go_ret
      exact ⟨0, false, rfl, .inr ⟨rfl, rfl, fun b hb => HNO.out b (by omega)⟩, HB.out⟩
end Go.Proofs.YtccpmaahnfgkeaaGreatDoor.R4
