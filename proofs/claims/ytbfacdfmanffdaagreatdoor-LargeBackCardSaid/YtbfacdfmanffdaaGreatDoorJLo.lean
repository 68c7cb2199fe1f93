/- Package large's lowParts: the parts of a number, the least one first. -/
import Derived.Test.YtbfacdfmanffdaaGreatDoorJDi
import Derived.Test.YtbfacdfmanffdaaGreatDoorJPb
import Derived.Test.YtbfacdfmanffdaaGreatDoorJSh
namespace Go.Proofs.YtbfacdfmanffdaaGreatDoor
set_option maxRecDepth 1000000
open Go.ChangeShapes Go.WideShapes Go.ChangeAt Go.RowKit Go.Shelf
attribute [local go_sem] Oper.semAt_some

def markOf (D : Nat) : Deferred := { target := .collected D, args := #[] }
theorem markOf_inj {D D' : Nat} (h : markOf D = markOf D') : D = D' := by
  unfold markOf at h
  injection h with h _
  injection h
/-- Marks that a frame holds: each its own block, not yet shut. -/
def Marks (E : Nat) (W : World) : List Deferred → Prop
  | [] => True
  | d :: ds => (∃ D, d = markOf D ∧ E ≤ D ∧ W.heap[D]? = some (.deferred (some [])) ∧ markOf D ∉ ds) ∧ Marks E W ds
theorem Marks.kept' {E : Nat} {W W' : World} : ∀ {ds : List Deferred}, (∀ D, E ≤ D → markOf D ∈ ds → W.heap[D]? = some (.deferred (some [])) → W'.heap[D]? = some (.deferred (some []))) → Marks E W ds → Marks E W' ds
  | [], _, _ => trivial
  | _ :: _, h, ⟨⟨D, hd, hE, hk, hn⟩, hm⟩ => ⟨⟨D, hd, hE, h D hE (by rw [hd]; exact List.mem_cons_self) hk, hn⟩, hm.kept' fun D' h1 h2 h3 => h D' h1 (List.mem_cons_of_mem _ h2) h3⟩
theorem Marks.kept {E : Nat} {W W' : World} {ds : List Deferred} (hm : Marks E W ds) (h : ∀ D, E ≤ D → W.heap[D]? = some (.deferred (some [])) → W'.heap[D]? = some (.deferred (some []))) : Marks E W' ds := hm.kept' fun D h1 _ h3 => h D h1 h3
theorem Marks.lt {E : Nat} {W : World} {D : Nat} : ∀ {ds : List Deferred}, Marks E W ds → markOf D ∈ ds → D < W.heap.size
  | _ :: _, ⟨⟨D', hd, _, hk, _⟩, hm⟩, h => by
    rcases List.mem_cons.1 h with h | h
    · rw [hd] at h
      rw [markOf_inj h]
      exact (Array.getElem?_eq_some_iff.1 hk).1
    · exact hm.lt h
theorem marks_leave {F : Fence} {n : Nat} {P : Program} {fn : Func} {tmps : Array Value} {R : Ending → World → Prop} {E : Nat} : ∀ (ds : List Deferred) (W : World), Marks E W ds → (∀ W', Below E W W' → LeavesInM F n P fn tmps R [] .returning W') → LeavesInM F n P fn tmps R ds .returning W
  | [], W, _, h => h W (Below.refl E W)
  | _ :: ds, W, ⟨⟨D, hd, hE, hk, hn⟩, hm⟩, h => by
    subst hd
    refine ⟨by simp, .inl ⟨D, _, rfl, run_takeDeferred hk, marks_leave ds _ (hm.kept' fun D' _ h2 h3 => ?_) fun W' hb => h W' ((below_end D _ (Below.refl E W) hE hk _).trans hb)⟩⟩
    exact (World.putObj_heap_other (by intro e; subst e; exact hn h2)).trans h3
def encP (x : Int) : Array Value := #[.int .i64 x]
theorem low_any (x : Option Addr) (m c : Nat) (w : World) : Calls Tryz.prog 31 #[.slice x m c] w fun e w' => e = .returned (.func (.func 46) #[] #[.pointer (some ⟨w.heap.size, 0, none⟩)]) ∧ w.alloc (.cells #[.slice x m c] 22) = w' := by
  go_enter Tryz.func31, Tryz.ntmps31
  go_wp2_with fail
  go_ret
  exact ⟨rfl, rfl⟩
theorem eg_low : ∀ args w, (callFunc 46 args).run Tryz.prog w = .ok (.enter 46 args) w := enters_of Tryz.func46 (by kernel_rfl) rfl
theorem clone_code (a : Option Addr) (c : Nat) (A : List Int) (L : Nat) (eL : A.length = L) (hL : L ≤ 1000000000000) (w : World) (h : ∀ i, i + 0 < L → ∃ b off, a = some ⟨b, off, none⟩ ∧ w.cell? ⟨b, off + i, none⟩ = some (.int .u8 (dgt A i))) :
    Calls Tryz.prog 47 #[.slice a L c] w fun e w' => ∃ a3 c3, e = .returned (.slice a3 L c3) ∧ L ≤ c3 ∧ Below w.heap.size w w' ∧ (0 < L → ∃ g, a3 = some ⟨g, 0, none⟩ ∧ w.heap.size ≤ g ∧ RowB w' g L (dgt A)) := by
  cases a with
  | none =>
    have h0 : L = 0 := by
      rcases Nat.eq_zero_or_pos L with h0 | h0
      · exact h0
      · obtain ⟨b, off, e, _⟩ := h 0 (by omega); cases e
    subst h0
    refine (Tryz.bytes_Clone_nil 0 c w).mono ?_
    rintro e w' ⟨rfl, rfl⟩
    exact ⟨_, _, rfl, Nat.le_refl _, Below.refl _ _, fun h => absurd h (by omega)⟩
  | some p =>
    refine (Tryz.bytes_Clone_at p L c A w eL (by omega) fun i hi => ?_).mono ?_
    · obtain ⟨b, off, e, h1⟩ := h i (by omega)
      injection e with e
      subst e
      have e2 : (⟨b, off, none⟩ : Addr).add i = ⟨b, off + i, none⟩ := by
        unfold Addr.add
        split
        · next h => subst h; rfl
        · rfl
      rw [e2]
      exact h1
    · rintro e w' ⟨v', rfl, ho, _, hb⟩
      have ho2 := ho
      obtain ⟨_, ⟨rfl, h0⟩ | ⟨g, cap, cur, rfl, hg, hgg, hcap, _⟩⟩ := ho2
      · subst h0
        exact ⟨_, _, rfl, Nat.le_refl _, hb, fun h => absurd h (by omega)⟩
      · refine ⟨_, _, rfl, hcap, hb, fun _ => ⟨g, rfl, hg, fun j hj => ?_, fun j => ho.frozenAt j, (Array.getElem?_eq_some_iff.1 hgg).1⟩⟩
        rw [ho.cellAt j (by omega), List.getElem?_map, List.getElem?_eq_getElem (by omega)]
        unfold dgt
        rw [List.getD, List.getElem?_eq_getElem (by omega)]
        rfl
/-- Between two rounds over the bytes. -/
structure LoI (E : Nat) (Jk : World → Prop) (ds : List Deferred) (B3 B4 Bx g c3 : Nat) (A : List Int) (L : Nat) (k : Nat) (W : World) : Prop where
  size : E ≤ W.heap.size
  j : Jk W
  marks : Marks E W ds
  box : Boxed W B3 22 (.slice (some ⟨g, 0, none⟩) L c3)
  part : Boxed W B4 3 (.int .i64 (val (A.drop (L - k)) % 10000000000000000))
  rd : Boxed W Bx 22 (.slice (some ⟨g, 0, none⟩) L c3)
  row : ∃ f, RowB W g L f ∧ (∀ j, 0 ≤ f j ∧ f j ≤ 255) ∧ (∀ j, j + k < L → f j = dgt A j) ∧ topV f (L - k) L = val (A.drop (L - k)) / 10000000000000000
theorem LoI.back {E : Nat} {Jk : World → Prop} {ds : List Deferred} {B3 B4 Bx g c3 : Nat} {A : List Int} {L k : Nat} {W : World} (h : LoI E Jk ds B3 B4 Bx g c3 A L k W) : BackRd Bx (some ⟨g, 0, none⟩) c3 A L k W :=
  ⟨h.rd.cell, fun i hi => by
    obtain ⟨f, h1, _, h3, _⟩ := h.row
    have := h1.1 i (by omega)
    rw [h3 i hi] at this
    exact ⟨g, 0, rfl, by rw [Nat.zero_add]; exact this⟩⟩
theorem LoI.own {E : Nat} {Jk : World → Prop} {ds : List Deferred} {B3 B4 Bx g c3 : Nat} {A : List Int} {L B : Nat} (hJ : ∀ A B, Jk A → Below E A B → Jk B) (h0 : 0 < L) (hB : E ≤ B) (hm : ∀ D, markOf D ∈ ds → D < B) : OwnFrom B (LoI E Jk ds B3 B4 Bx g c3 A L) := fun _ W _ _ h hg hr =>
  have hc := fun r e => (hr r e).2
  have hb := below_grown (Below.refl E W) h.size hg fun r e => Nat.le_trans hB (hr r e).1
  ⟨Nat.le_trans h.size hg.size, hJ _ _ h.j hb, h.marks.kept' fun D _ h2 h3 => (hg.block D (Array.getElem?_eq_some_iff.1 h3).1 (fun e => by
    have h4 := hm D h2
    have h5 := (hr D e.symm).1
    omega)).trans h3, box_grown h.box hg hc, box_grown h.part hg hc, box_grown h.rd hg hc, by
    obtain ⟨f, h1, h2⟩ := h.row
    exact ⟨f, rowB_grown h1 h0 hg hc, h2⟩⟩
theorem LoI.next {E : Nat} {Jk : World → Prop} {ds : List Deferred} {B3 B4 Bx g c3 : Nat} {A : List Int} {L k : Nat} {W W' : World} (hJ : ∀ A B, Jk A → Below E A B → Jk B) (h : LoI E Jk ds B3 B4 Bx g c3 A L k W) (hb : Below W.heap.size W W') : LoI E Jk ds B3 B4 Bx g c3 A L k W' :=
  ⟨Nat.le_trans h.size hb.size, hJ _ _ h.j (hb.mono h.size), h.marks.kept fun D _ h3 => (hb.block D (Array.getElem?_eq_some_iff.1 h3).1).trans h3, box_next h.box hb h.box.lt, box_next h.part hb h.part.lt, box_next h.rd hb h.rd.lt, by
    obtain ⟨f, h1, h2⟩ := h.row
    exact ⟨f, h1.next hb, h2⟩⟩
/-- Between two parts: N is what is left. -/
structure LoS (E : Nat) (N0 : Nat) (J : Nat → World → Prop) (ds : List Deferred) (N kk B3 : Nat) (a3 : Option Addr) (c3 : Nat) (pre : List Int) (W : World) : Prop where
  size : E ≤ W.heap.size
  e3 : E ≤ B3
  split : parts N0 = pre ++ parts N
  plen : pre.length = kk
  j : J kk W
  marks : Marks E W ds
  box : Boxed W B3 22 (.slice a3 (dig N).length c3)
  cap : (dig N).length ≤ c3
  len : (dig N).length ≤ 1000000000000
  row : 0 < (dig N).length → ∃ g, a3 = some ⟨g, 0, none⟩ ∧ E ≤ g ∧ g ≠ B3 ∧ RowB W g (dig N).length (dgt (dig N))
def LoR (E : Nat) (N0 : Nat) (J : Nat → World → Prop) (l Bs : Nat) (a : Act) (W : World) : Prop :=
  ∃ ds N kk B3 a3 c3 pre, LoS E N0 J ds N kk B3 a3 c3 pre W ∧ ∃ (u4 u5 u6 u7 u8 u9 u10 u11 u12 u13 u14 u15 u16 u17 u18 u19 u20 u21 u22 u23 u24 u25 u26 u27 u28 u29 u30 u31 u32 u33 u34 u35 : Value), a = { tmps := #[.func (.yield l) #[] #[], .pointer (some ⟨Bs, 0, none⟩), undef, .pointer (some ⟨B3, 0, none⟩), u4, u5, u6, u7, u8, u9, u10, u11, u12, u13, u14, u15, u16, u17, u18, u19, u20, u21, u22, u23, u24, u25, u26, u27, u28, u29, u30, u31, u32, u33, u34, u35], defers := ds }
/-- How long what is left is. -/
def loLen (a : Act) (W : World) : Nat := match (a.tmps[3]? : Option Value) with
  | some (Value.pointer (some p)) => match W.cell? p with
    | some (Value.slice _ n _) => n
    | _ => 0
  | _ => 0
theorem bts_cap {N : Nat → Prop} {w : World} {g m c : Nat} {xs : List Int} (h : Bts N w (.slice (some ⟨g, 0, none⟩) m m) xs) (hc : m ≤ c) : Bts N w (.slice (some ⟨g, 0, none⟩) m c) xs := by
  obtain ⟨a, c', he, _, h⟩ := h
  injection he with e1 e2 e3
  subst e1
  exact ⟨_, c, by rw [← e2], by rw [← e2]; exact hc, h⟩
theorem loLen_eq {a : Act} {W : World} {p : Addr} {x : Option Addr} {n c : Nat} (h : a.tmps[3]? = some (.pointer (some p))) (hc : W.cell? p = some (.slice x n c)) : loLen a W = n := by
  unfold loLen
  rw [h]
  dsimp only
  rw [hc]
theorem kp_at {E b : Nat} {A B : World} {o : Obj} (h : KpOwn E A B) (hE : E ≤ b) (ho : A.heap[b]? = some o) : B.heap[b]? = some o := (h.2 b hE (Array.getElem?_eq_some_iff.1 ho).1).trans ho
theorem RowB.at_ {W W' : World} {g m : Nat} {f : Nat → Int} (h : RowB W g m f) (e : W'.heap[g]? = W.heap[g]?) (hs : W.heap.size ≤ W'.heap.size) : RowB W' g m f :=
  ⟨fun j hj => (World.cell?_of_block e).trans (h.1 j hj), fun j => (World.frozen?_of_block (w := W) (a := ⟨g, j, none⟩) e).trans (h.2.1 j), Nat.lt_of_lt_of_le h.2.2 hs⟩
theorem RowB.short {W : World} {g m k : Nat} {f h : Nat → Int} (H : RowB W g m f) (hk : k ≤ m) (e : ∀ j, j < k → h j = f j) : RowB W g k h := ⟨fun j hj => by rw [e j hj]; exact H.1 j (by omega), H.2.1, H.2.2⟩
set_option maxHeartbeats 8000000 in
theorem low_gives (n : Nat) (hn : 2 ≤ n) (Bs : Nat) (a : Option Addr) (c N0 L : Nat) (eL : (dig N0).length = L) (hL : L ≤ 1000000000000) :
    SeqT Fence.wide n Tryz.prog 46 #[.pointer (some ⟨Bs, 0, none⟩)] encP (parts N0) AbOwn KpOwn (fun _ => BackRd Bs a c (dig N0) L 0) := by
  intro l J w hR hAb hY h0
  have hn1 : 1 ≤ n - 1 := by omega
  have hn2 : 1 ≤ n := by omega
  have fb : Fence.wide.fn 22 := trivial
  have fc : Fence.wide.fn 47 := trivial
  have ft : Fence.wide.fn 38 := trivial
  have HY := Lib.hid hY
  have HA : Hid (∀ k A B, J k A → Below w.heap.size A B → J k B) := Lib.hid hAb
  have H0 := Lib.hid h0
  have hb0 := (hR 0 w h0).1
  have HCL := Lib.hid (clone_code a c (dig N0) L eL hL w (hR 0 w h0).2)
  obtain ⟨E, hE⟩ : ∃ E, w.heap.size = E := ⟨_, rfl⟩
  rw [hE] at HY HA HCL
  have HE := Lib.hid hE
  have HLn := Lib.hid eL
  clear hR hAb hY h0
  refine callsIn_of_wp_marks Tryz.func46 rfl trivial ?_ rfl
  simp only [Tryz.ntmps46, List.size_toArray, List.length_cons, List.length_nil, Nat.reduceAdd, Nat.reduceSub, Array.replicate_succ, Array.replicate_zero, List.push_toArray, List.append_toArray, List.nil_append, List.cons_append]
  gi_wp2_with (gi_at_call 47; refine (callsIn_wide.2 HCL.out).mono ?_; rintro e w2 ⟨a3, c3, rfl, hc3, hb2, hrow⟩)
  have HS : Hid (LoS E N0 J [] N0 0 w2.heap.size a3 c3 [] (w2.alloc (.cells #[.slice a3 L c3] 22))) := Lib.hid (by
    have hs2 := hb2.size
    have HE2 := HE.out
    refine ⟨by simp; omega, by omega, by simp, rfl, HA.out _ _ _ H0.out (hb2.alloc (by omega) _), trivial, ?_, ?_, ?_, fun h => ?_⟩
    · rw [HLn.out]; exact Boxed.new _ _ _
    · rw [HLn.out]; exact hc3
    · rw [HLn.out]; exact hL
    · rw [HLn.out] at h ⊢
      obtain ⟨g, h1, h2, h3⟩ := hrow h
      exact ⟨g, h1, h2, fun e => by have := h3.2.2; omega, h3.next (below_new _ _)⟩)
  clear hrow hb2 HCL hc3 hL HLn eL H0 hb0
  refine wpIn_loop (LoR E N0 J l Bs) loLen ?start ?round
  case start => exact ⟨_, _, _, _, _, _, _, HS.out, _, _, _, _, _, _, _, _, _, _, _, _, _, _, _, _, _, _, _, _, _, _, _, _, _, _, _, _, _, _, _, _, rfl⟩
  case round =>
    clear HS
    rintro _ W ⟨ds, N, kk, B3, a3, c3, pre, hS, u4, u5, u6, u7, u8, u9, u10, u11, u12, u13, u14, u15, u16, u17, u18, u19, u20, u21, u22, u23, u24, u25, u26, u27, u28, u29, u30, u31, u32, u33, u34, u35, rfl⟩
    dsimp only
    have HS := Lib.hid hS
    have hbx := hS.box.cell
    have hbx4 := (hS.box.alloc (.cells #[.int .i64 0] 3)).cell
    have hbf := hS.box.frozen
    obtain ⟨m, hm⟩ : ∃ m, (dig N).length = m := ⟨_, rfl⟩
    rw [hm] at hbx hbx4
    have HM := Lib.hid hm
    by_cases h0 : m = 0
    · subst h0
      clear hm hS
      gi_wp2
      refine marks_leave (E := E) _ _ HS.out.marks fun W' hb => ?_
      have hN : N = 0 := Decidable.byContradiction fun h => by
        have h1 := dig_fewer h
        have h2 := HM.out
        omega
      have hkk : (parts N0).length = kk := by rw [HS.out.split, hN, parts_zero, List.append_nil, HS.out.plen]
      refine ⟨_, results_none rfl _ _ _, ⟨_, rfl⟩, ?_⟩
      rw [hkk]
      exact HA.out _ _ _ HS.out.j hb
    · have hm0 : 0 < m := by omega
      have hN : N ≠ 0 := fun h => by rw [h, dig_zero] at hm; simp at hm; omega
      obtain ⟨g, rfl, hEg, hg3, hrow⟩ := hS.row (by omega)
      rw [hm] at hrow
      have hcap := hS.cap
      have hlen := hS.len
      rw [hm] at hcap hlen
      have d0 : decide ((0 : Int) < m) = true := by simp; omega
      have hbW : W.heap.size ≤ W.heap.size := Nat.le_refl _
      have HROW := Lib.hid hrow
      clear hm hS hrow
      gi_wp2_with (gi_at_call 22; refine (callsIn_wide.2 (back_any _ _ _ _)).mono ?_; rintro e w2 ⟨rfl, rfl⟩)
      obtain ⟨z, hz⟩ : ∃ z, W.heap.size = z := ⟨_, rfl⟩
      obtain ⟨W0, hW0⟩ : ∃ W0, (W.alloc (.cells #[.int .i64 0] 3)).alloc (.cells #[.slice (some ⟨g, 0, none⟩) m c3] 22) = W0 := ⟨_, rfl⟩
      have HMT : Hid (∀ D, markOf D ∈ ds → D < z) := Lib.hid fun D h => by rw [← hz]; exact HS.out.marks.lt h
      have hB3 : B3 < z := by rw [← hz]; exact HS.out.box.lt
      have hgz : g < z := by rw [← hz]; exact HROW.out.2.2
      have hEz : E ≤ z := by rw [← hz]; exact HS.out.size
      have hs0 : W0.heap.size = z + 1 + 1 := by rw [← hW0]; simp [hz]
      have hE3 : E ≤ B3 := HS.out.e3
      have HI0 : Hid (LoI E (J kk) ds B3 z (z + 1) g c3 (dig N) m 0 W0) := Lib.hid (by
        have hb : Below W.heap.size W W0 := by rw [← hW0]; exact ((Below.refl _ W).alloc (Nat.le_refl _) _).alloc (by simp) _
        have e0 : (dig N).drop (m - 0) = [] := List.drop_of_length_le (by rw [HM.out]; omega)
        have x1 := Boxed.new W 3 (.int .i64 0)
        have x2 := Boxed.new (W.alloc (.cells #[.int .i64 0] 3)) 22 (.slice (some ⟨g, 0, none⟩) m c3)
        simp only [World.size_alloc, hz] at x1 x2
        have hbx0 := HS.out.box
        rw [HM.out] at hbx0
        refine ⟨by omega, HA.out _ _ _ HS.out.j (hb.mono (by omega)), HS.out.marks.kept fun D _ h3 => (hb.block D (Array.getElem?_eq_some_iff.1 h3).1).trans h3, box_next hbx0 hb hbx0.lt, ?_, ?_, ⟨dgt (dig N), HROW.out.next hb, fun j => dgt_rng (dig_bytes N) j, fun _ _ => rfl, ?_⟩⟩
        · rw [← hW0, e0]; exact x1.alloc _
        · rw [← hW0]; exact x2
        · rw [e0, Nat.sub_zero, topV_end]; rfl)
      rw [hW0]
      rw [hz]
      have HBX := Lib.hid hbx
      clear hW0 hbx hbx4 hbf fb fc
      refine rangeFunc_x rfl hn2 (gf := 41) (lb := #[.pointer (some ⟨z + 1, 0, none⟩)]) rfl trivial eg_back (back_gives (n - 1) hn1 _ (some ⟨g, 0, none⟩) c3 (dig N) m hlen hcap) abNew_kept (fun _ _ _ _ _ _ => trivial) (fun _ _ _ _ _ _ => trivial) (fun _ => rfl)
        (LoI E (J kk) ds B3 z (z + 1) g c3 (dig N) m) (fun _ _ => False) (LoI.own (HA.out kk) hm0 (by omega) (fun D h => by have := HMT.out D h; omega)) nox_own (fun k A h => h.back) (fun k A B h hab => h.next (HA.out kk) hab) HI0.out ?round ?done ?stop
      case stop =>
        rintro D c W hD hX hK
        exact hX.elim
      case round =>
        rintro l k ⟨i, d⟩ W hx
        obtain ⟨hk, he⟩ := backL_is hx
        injection he with he1 he2
        rw [← he1] at he2
        have hik : m - k = i + 1 := by omega
        have hik2 : m - (k + 1) = i := by omega
        have hd := dgt_rng (dig_bytes N) i
        rw [← he2] at hd
        obtain ⟨hd0, hd1⟩ := hd
        have hi : i < m := by omega
        have hk1 : i + k < m := by omega
        have HK := Lib.hid hik
        have HK2 := Lib.hid hik2
        have HD := Lib.hid he2
        clear hx he1 he2 hik hik2 hk HI0
        simp only [encB]
        gi_wp2
        refine Asg.mk ?_
        intro W1 hI hsz
        have HI := Lib.hid hI
        obtain ⟨f, hr1, hf, hfd, htop⟩ := hI.row
        obtain ⟨x, hxx⟩ : ∃ x, val ((dig N).drop (m - k)) % 10000000000000000 = x := ⟨_, rfl⟩
        have hx0 : 0 ≤ x := by omega
        have hx1 : x ≤ 9999999999999999 := by omega
        have hpt := hI.part
        rw [hxx] at hpt
        have HXX := Lib.hid hxx
        have hor := or8 hx0 (by omega) hd0 hd1
        obtain ⟨y, hy⟩ : ∃ y, x * 256 + d = y := ⟨_, rfl⟩
        rw [hy] at hor
        have hy0 : 0 ≤ y := by omega
        have hy1 : y ≤ 2559999999999999999 := by omega
        obtain ⟨D, hDD⟩ : ∃ D, y / 10000000000000000 = D := ⟨_, rfl⟩
        obtain ⟨S, hSS⟩ : ∃ S, y % 10000000000000000 = S := ⟨_, rfl⟩
        have hD0 : 0 ≤ D := by omega
        have hD1 : D ≤ 255 := by omega
        have hS0 : 0 ≤ S := by omega
        have hS1 : S ≤ 9999999999999999 := by omega
        have htd : y.tdiv 10000000000000000 = D := by rw [← hDD]; exact Int.tdiv_eq_ediv_of_nonneg hy0
        have htm : y.tmod 10000000000000000 = S := by rw [← hSS]; exact Int.tmod_eq_emod_of_nonneg hy0
        have p2 : Boxed (W1.setCell ⟨z, 0, none⟩ (.int .i64 y)) z 3 (.int .i64 y) := hpt.set _
        have b2 : Boxed (W1.setCell ⟨z, 0, none⟩ (.int .i64 y)) B3 22 (.slice (some ⟨g, 0, none⟩) m c3) := hI.box.other (by omega) _
        have r2 : RowB (W1.setCell ⟨z, 0, none⟩ (.int .i64 y)) g m f := rowB_other hr1 (by omega) _
        have p3 : Boxed ((W1.setCell ⟨z, 0, none⟩ (.int .i64 y)).setCell ⟨g, i, none⟩ (.int .u8 D)) z 3 (.int .i64 y) := box_cell p2 (by omega) _
        have HN : Hid (LoI E (J kk) ds B3 z (z + 1) g c3 (dig N) m (k + 1) (((W1.setCell ⟨z, 0, none⟩ (.int .i64 y)).setCell ⟨g, i, none⟩ (.int .u8 D)).setCell ⟨z, 0, none⟩ (.int .i64 S))) := Lib.hid (by
          have h := HI.out
          have hT : val ((dig N).drop (i + 1)) / 10000000000000000 = topV f (i + 1) m := by rw [← HK.out]; exact htop.symm
          have hRm : val ((dig N).drop (i + 1)) % 10000000000000000 = x := by rw [← HK.out]; exact HXX.out
          have hdr : val ((dig N).drop i) = d + 256 * val ((dig N).drop (i + 1)) := by rw [val_drop (by rw [HM.out]; omega), ← HD.out]
          obtain ⟨dn1, dn2⟩ := div_next hT hRm (show d + 256 * x = y by omega) hDD (by decide)
          have hbb : Below E W1 (((W1.setCell ⟨z, 0, none⟩ (.int .i64 y)).setCell ⟨g, i, none⟩ (.int .u8 D)).setCell ⟨z, 0, none⟩ (.int .i64 S)) := (((Below.refl E W1).setCell (p := ⟨z, 0, none⟩) hEz _).setCell (p := ⟨g, i, none⟩) hEg _).setCell (p := ⟨z, 0, none⟩) hEz _
          refine ⟨Nat.le_trans h.size hbb.size, HA.out _ _ _ h.j hbb, h.marks.kept fun D' _ h3 => (((KeepsOthers.setCell W1 ⟨z, 0, none⟩ (.int .i64 y)).trans (KeepsOthers.setCell _ ⟨g, i, none⟩ (.int .u8 D))).trans (KeepsOthers.setCell _ ⟨z, 0, none⟩ (.int .i64 S))).same D' _ h3 rfl, (box_cell b2 (by omega) _).other (by omega) _, ?_, (box_cell (h.rd.other (by omega) _) (by omega) _).other (by omega) _, ⟨fun j => if j = i then D else f j, rowB_other (r2.set hi D) (by omega) _, fun j => ?_, fun j hj => ?_, ?_⟩⟩
          · rw [HK2.out, hdr, dn2, hSS]; exact p3.set _
          · show 0 ≤ (if j = i then D else f j) ∧ (if j = i then D else f j) ≤ 255
            split
            · exact ⟨hD0, hD1⟩
            · exact hf j
          · have hk2 := HK2.out
            show (if j = i then D else f j) = _
            rw [if_neg (by omega)]
            exact hfd j (by omega)
          · rw [HK2.out, hdr, dn1, topV_step _ _ hi]
            show (if i = i then D else f i) + 256 * _ = _
            rw [if_pos rfl, topV_congr (g := f) m m (i + 1) (by omega) (fun j hj => if_neg (by omega))])
        have c1 := hpt.cell
        have f1 := hpt.frozen
        have c2 := p2.cell
        have c3' := b2.cell
        have c4 := r2.1 i hi
        have f4 := r2.2.1 i
        have c5 := p3.cell
        have f5 := p3.frozen
        have hiL : (i : Int) < m := by omega
        clear hI hr1 hf hfd htop hxx hpt hy hDD hSS p2 b2 r2 p3 HI HK HK2 HD HXX HS HROW
        gi_wp2
        exact ⟨(((KeepsOthers.setCell _ _ _).trans (KeepsOthers.setCell _ _ _)).trans (KeepsOthers.setCell _ _ _)).from _, trivial, HN.out⟩
      case done =>
        intro D W' hD hI hK
        rw [backL_len] at hI
        have HI := Lib.hid hI
        obtain ⟨f, hr1, hf, _, htop⟩ := hI.row
        have hpt := hI.part
        rw [Nat.sub_self, List.drop_zero, val_dig] at hpt htop
        obtain ⟨y, hy⟩ : ∃ y : Int, ((N % UU : Nat) : Int) = y := ⟨_, rfl⟩
        have hy2 : (N : Int) % 10000000000000000 = y := by rw [← hy]; rfl
        rw [hy2] at hpt
        obtain ⟨fn, tmps, assign, body, hyl, hRr⟩ := HY.out kk y W' (by
          rw [HS.out.split, List.getElem?_append_right (by rw [HS.out.plen]; exact Nat.le_refl _), HS.out.plen, Nat.sub_self, parts_pos hN, hy]; rfl) hI.j
        unfold encP at hyl
        have HRr := Lib.hid hRr
        have hvr : val (rowL f m) = ((N / UU : Nat) : Int) := by
          have e : topV f 0 m = val (rowL f m) := by unfold topV; rw [List.drop_zero]
          rw [← e, htop]; rfl
        have hrb : Bytes (rowL f m) := fun v hv => by
          unfold rowL at hv
          obtain ⟨j, _, rfl⟩ := List.mem_map.1 hv
          exact hf j
        have htr := trimK_take hrb
        have htl := trimK_le hrb
        rw [rowL_len] at htl
        have htk : trimK (rowL f m) = (dig (N / UU)).length := by unfold trimK; rw [hvr]; rfl
        rw [hvr] at htr
        have htr : (rowL f m).take (dig (N / UU)).length = dig (N / UU) := by rw [← htk]; exact htr
        have hless : (dig (N / UU)).length < m := by rw [← HM.out]; exact dig_fewer hN
        obtain ⟨k', hk'⟩ : ∃ k, (dig (N / UU)).length = k := ⟨_, rfl⟩
        rw [hk'] at htk htr hless
        have HAF : Hid (∀ W3, KpOwn E W' W3 → J (kk + 1) W3 → ∃ z3, W3.heap.size = z3 ∧ W3.cell? ⟨B3, 0, none⟩ = some (.slice (some ⟨g, 0, none⟩) m c3) ∧
            Boxed (W3.alloc (.cells #[.slice (some ⟨g, 0, none⟩) m c3] 22)) z3 22 (.slice (some ⟨g, 0, none⟩) m c3) ∧
            Calls Tryz.prog 38 #[.slice (some ⟨g, 0, none⟩) m c3] (W3.alloc (.cells #[.slice (some ⟨g, 0, none⟩) m c3] 22)) (fun e w' => e = .returned (.slice (some ⟨g, 0, none⟩) k' c3) ∧ W3.alloc (.cells #[.slice (some ⟨g, 0, none⟩) m c3] 22) = w') ∧
            (W3.alloc (.cells #[.slice (some ⟨g, 0, none⟩) k' c3] 22)).cell? ⟨z3, 0, none⟩ = some (.slice (some ⟨g, 0, none⟩) k' c3) ∧
            LoS E N0 J (markOf D :: ds) (N / UU) (kk + 1) z3 (some ⟨g, 0, none⟩) c3 (pre ++ [y]) (W3.alloc (.cells #[.slice (some ⟨g, 0, none⟩) k' c3] 22))) := Lib.hid fun W3 hkp hj => by
          have hkg := kp_at hkp hEg (Array.getElem?_eq_getElem hr1.2.2)
          have hr3 : RowB W3 g m f := hr1.at_ (hkg.trans (Array.getElem?_eq_getElem hr1.2.2).symm) hkp.1
          have hbx3 : Boxed W3 B3 22 (.slice (some ⟨g, 0, none⟩) m c3) := kp_at hkp hE3 HI.out.box
          have hsz3 : z ≤ W3.heap.size := by have := HI.out.box.lt; have := hr1.2.2; have := hkp.1; have := HI.out.rd.lt; omega
          have hgW := hr3.2.2
          have x := Boxed.new W3 22 (.slice (some ⟨g, 0, none⟩) m c3)
          have hb4 := below_new W3 (.cells #[.slice (some ⟨g, 0, none⟩) m c3] 22)
          have hr4 := hr3.next hb4
          have _ := hr3
          have hb5 := below_new W3 (.cells #[.slice (some ⟨g, 0, none⟩) k' c3] 22)
          have hbE : Below E W3 (W3.alloc (.cells #[.slice (some ⟨g, 0, none⟩) k' c3] 22)) := hb5.mono (by omega)
          have x5 := Boxed.new W3 22 (.slice (some ⟨g, 0, none⟩) k' c3)
          have hT := trim_is (some ⟨g, 0, none⟩) m c3 (rowL f m) (W3.alloc (.cells #[.slice (some ⟨g, 0, none⟩) m c3] 22)) (bts_cap hr4.bts hcap) hrb (by rw [rowL_len]; exact hlen)
          rw [htk] at hT
          refine ⟨_, rfl, hbx3.cell, x, hT, x5.cell, Nat.le_trans (by omega) hbE.size, by omega, ?_, ?_, HA.out _ _ _ hj hbE, ⟨⟨D, rfl, by omega, ?_, fun h => by have := HMT.out D h; omega⟩, HI.out.marks.kept fun D' h1 h2 => ?_⟩, ?_, ?_, ?_, fun _ => ⟨g, rfl, hEg, by omega, ?_⟩⟩
          · rw [HS.out.split, parts_pos hN, hy]; simp
          · rw [List.length_append, HS.out.plen]; rfl
          · exact (hb5.block D (Array.getElem?_eq_some_iff.1 (kp_at hkp (by omega) hK)).1).trans (kp_at hkp (by omega) hK)
          · exact (hb5.block D' (Array.getElem?_eq_some_iff.1 (kp_at hkp h1 h2)).1).trans (kp_at hkp h1 h2)
          · rw [hk']; exact x5
          · rw [hk']; omega
          · rw [hk']; omega
          · rw [hk']
            refine (hr3.next hb5).short (by omega) fun j hj => ?_
            rw [← htr]
            unfold dgt
            rw [List.getD, List.getElem?_take, if_pos hj, rowL, List.getElem?_map, List.getElem?_range (by omega)]
            rfl
        have c1 := hpt.cell
        clear hI hr1 hf htop hpt hRr hvr hrb htr htk HI HROW HS HI0 hy hy2
        gi_wp2
        refine HRr.out.mono ?_
        rintro e W3 ⟨hkp, rfl, hj⟩
        obtain ⟨z3, hz3, c2, bx, hT, bx5, hls⟩ := HAF.out W3 hkp hj
        have HT := Lib.hid hT
        have HLS := Lib.hid hls
        have c3' := bx.cell
        have f3 := bx.frozen
        clear hT hls hkp hj HAF bx
        gi_wp2_with (gi_at_call 38; refine (callsIn_wide.2 HT.out).mono ?_; rintro e w5 ⟨rfl, rfl⟩)
        refine ⟨⟨_, _, _, _, _, _, _, HLS.out, _, _, _, _, _, _, _, _, _, _, _, _, _, _, _, _, _, _, _, _, _, _, _, _, _, _, _, _, _, _, _, _, rfl⟩, ?_⟩
        rw [loLen_eq rfl bx5, loLen_eq rfl HBX.out]
        exact hless
end Go.Proofs.YtbfacdfmanffdaaGreatDoor
