/- Texts one behind the other: FRk FCo FIf. -/
import Derived.Test.YtmaeoefimkppoaaFRc
import Derived.Deep.LoopGhost
import Derived.WalkMore

/- What reachable of a memory returns: the objects that one comes to, by their numbers. -/
namespace Go.Proofs.Ytmaeoefimkppoaa.Fl
set_option maxRecDepth 1000000
open Go.ChangeShapes Go.WideShapes Go.ChangeAt Go.RowKit
open Go.Proofs.Ytmaeoefimkppoaa.Wd

theorem Try.info33 : (Try.prog.info? 33).map (fun i => (i.zero, i.size, i.bytes)) = some (some zObj, 4, 64) := by kernel_rfl
/-- An object on the list. -/
structure Li where
  o : Ob
  a1 : Option Addr
  c1 : Nat
  a2 : Option Addr
  c2 : Nat
def Li.val (y : Li) : Value := .agg #[.int .i64 y.o.c, .int .i64 y.o.k, .slice y.a1 y.o.w.length y.c1, .slice y.a2 y.o.b.length y.c2]
def Li.cells (y : Li) : List Value := [.int .i64 y.o.c, .int .i64 y.o.k, .slice y.a1 y.o.w.length y.c1, .slice y.a2 y.o.b.length y.c2]
def cellsT (l : List Li) : List Value := l.flatMap Li.cells
theorem cellsT_snoc (l : List Li) (y : Li) : cellsT (l ++ [y]) = cellsT l ++ y.cells := by simp [cellsT]
theorem cellsT_len (l : List Li) : (cellsT l).length = l.length * 4 := by
  induction l with
  | nil => rfl
  | cons a r ih => simp only [cellsT, List.flatMap_cons, List.length_append, List.length_cons] at ih ⊢; rw [ih]; simp [Li.cells]; omega
/-- The list in memory, from block q on. -/
def ListAt (q : Nat) (w : World) (v : Value) (l : List Li) : Prop := w.ownsRow q 33 4 v l.length (cellsT l)
theorem own_only4 {w w' : World} {base n s : Nat} {e : TypeId} {v : Value} {xs : List Value} {F : Nat → Prop} (h : w.ownsRow base e s v n xs) (o : Only F w w') (hF : ∀ b, v.ownBlock = some b → ¬ F b) : w'.ownsRow base e s v n xs :=
  ⟨h.1, h.2.imp id fun ⟨g, cap, cur, h1, h2, h3, h4⟩ => ⟨g, cap, cur, h1, h2, (o.block g (Array.getElem?_eq_some_iff.1 h3).1 (hF g (by rw [h1]; rfl))).trans h3, h4⟩⟩
theorem ListAt.fresh {q : Nat} {w w' : World} {v : Value} {l : List Li} (h : ListAt q w v l) (hb : Below w.heap.size w w') : ListAt q w' v l := own_only4 h (only_below hb) (fun _ _ h => h)
/-- One less: the slice ends earlier. -/
theorem ListAt.pop {q : Nat} {w : World} {v : Value} {l : List Li} {y : Li} (h : ListAt q w v (l ++ [y])) : ∃ g c, v = .slice (some ⟨g, 0, none⟩) (l.length + 1) c ∧ l.length + 1 ≤ c ∧ ListAt q w (.slice (some ⟨g, 0, none⟩) l.length c) l ∧
    (∀ j u, y.cells[j]? = some u → w.cell? ⟨g, l.length * 4 + j, none⟩ = some u) ∧ g < w.heap.size := by
  obtain ⟨hl, h⟩ := h
  rw [List.length_append, List.length_singleton] at h hl
  rcases h with ⟨_, h0⟩ | ⟨g, cap, cur, rfl, hb, hg, hnc, hcm, hcs, ht⟩
  · omega
  refine ⟨g, cap, rfl, hnc, ⟨cellsT_len l, .inr ⟨g, cap, cur, rfl, hb, hg, by omega, hcm, hcs, ?_⟩⟩, fun j u hu => ?_, (Array.getElem?_eq_some_iff.1 hg).1⟩
  · rw [cellsT_snoc] at ht
    have := congrArg (List.take (l.length * 4)) ht
    rw [List.take_take, Nat.min_eq_left (by omega), List.take_left' (cellsT_len l)] at this
    exact this
  · have hj : j < 4 := (List.getElem?_eq_some_iff.1 hu).1
    have h2 : (cellsT (l ++ [y]))[l.length * 4 + j]? = some u := by
      rw [cellsT_snoc, List.getElem?_append_right (by rw [cellsT_len]; omega), cellsT_len, show l.length * 4 + j - l.length * 4 = j by omega]
      exact hu
    rw [← ht, List.getElem?_take, if_pos (by omega), Array.getElem?_toList] at h2
    rw [cell_of_row w g (l.length * 4 + j) cur 33 (0, 0) hg]
    exact h2
def reachF (L : List (Option En)) (Rs : List Int) : Int → Option Value := fun i => if i ∈ Rs then (at_ L i).map En.val else none
theorem reachF_add {L : List (Option En)} {Rs : List Int} {j : Int} {e : En} (he : at_ L j = some e) : putM (reachF L Rs) j e.val = reachF L (Rs ++ [j]) := by
  funext i
  unfold putM reachF
  by_cases h : i = j
  · subst h; simp [he]
  · rw [if_neg h]; simp [h]
structure RW (w wr : World) (L : List (Option En)) (rm : Nat) (Rs : List Int) (tv : Value) (todo : List Li) : Prop where
  mp : MapV wr rm Rs.length (reachF L Rs)
  rml : w.heap.size ≤ rm
  row : ListAt w.heap.size wr tv todo
  bel : Below w.heap.size w wr
  obs : ∀ y ∈ todo, ObjAt w y.val y.o ∧ y.o.w.length ≤ 1000
theorem RW.fresh {w wr w' : World} {L : List (Option En)} {rm : Nat} {Rs : List Int} {tv : Value} {todo : List Li} (h : RW w wr L rm Rs tv todo) (hb : Below wr.heap.size wr w') : RW w w' L rm Rs tv todo :=
  ⟨h.mp.only (only_below hb) id, h.rml, h.row.fresh hb, h.bel.trans (hb.mono h.bel.size), h.obs⟩
def ReachPost (L : List (Option En)) (rs : List Int) (w : World) (e : Ending) (w' : World) : Prop :=
  ∃ rm Rs, e = .returned (.map (some rm)) ∧ w.heap.size ≤ rm ∧ MapV w' rm Rs.length (reachF L Rs) ∧ Below w.heap.size w w' ∧ (∀ i, i ∈ Rs ↔ Comes (mapO En.o L) rs i) ∧ Rs.Nodup
def rootO (roots : List Int) : Ob := ⟨0, 0, roots, []⟩
theorem root_refs (roots : List Int) : refsO (rootO roots) = refsL roots := by
  unfold refsO rootO refsL
  rw [List.filterMap_cons]
  rfl
theorem En.Row.li {w : World} {e : En} (h : e.Row w) : ∃ y : Li, y.o = e.o ∧ y.val = e.val ∧ ObjAt w y.val y.o ∧ y.o.w.length ≤ 1000 := by
  have ho := h.obj
  have hs := (ok_short h.ok).1
  obtain ⟨wv, bv, hv, ⟨_, _, a1, c1, rfl, _⟩, ⟨_, _, a2, c2, rfl, _⟩, _⟩ := ho
  exact ⟨⟨e.o, a1, c1, a2, c2⟩, rfl, hv.symm, by rw [show Li.val ⟨e.o, a1, c1, a2, c2⟩ = e.val from hv.symm]; exact h.obj, hs⟩
theorem own_not_map4 {w : World} {base n s : Nat} {e : TypeId} {v : Value} {xs : List Value} (h : w.ownsRow base e s v n xs) {g b : Nat} (hg : v.ownBlock = some g) {es : Array MapEntry} {ck : Nat} (hb : w.heap[b]? = some (.map es ck)) : g ≠ b := by
  rintro rfl
  rcases h.2 with ⟨rfl, _⟩ | ⟨g1, _, _, rfl, _, h3, _⟩
  · cases hg
  · simp only [Value.ownBlock, Option.some.injEq] at hg
    subst hg
    rw [h3] at hb
    cases hb
section
variable {w wr w' : World} {K : Nat → Prop} {m : Nat} {r : Option Nat} {nv : Value} {L : List (Option En)} {rm : Nat} {Rs : List Int} {tv : Value} {todo : List Li}
theorem RW.look (h : RW w wr L rm Rs tv todo) (H : MemR w K m r nv L) (hl : ∀ i ∈ Rs, (at_ L i).isSome = true) (j : Int) (hj : W64 j) : ∃ c k a1 n1 c1 a2 n2 c2, (Instr.lookup 73 (.map (some rm)) (.int .i64 j) true).run Try.prog wr = .ok (.tuple #[.agg #[.int .i64 c, .int .i64 k, .slice a1 n1 c1, .slice a2 n2 c2], .bool (decide (j ∈ Rs))]) wr := by
  have h1 := h.mp.look j hj
  by_cases hm : j ∈ Rs
  · obtain ⟨e, he⟩ := Option.isSome_iff_exists.1 (hl j hm)
    obtain ⟨a1, n1, c1, a2, n2, c2, hv⟩ := (H.rows j e he).form
    unfold reachF at h1
    simp only [hm, if_true, he, Option.map_some, Option.getD_some, Option.isSome_some, hv] at h1
    exact ⟨_, _, _, _, _, _, _, _, by rw [h1, decide_eq_true hm]⟩
  · unfold reachF at h1
    simp only [hm, if_false, Option.getD_none, Option.isSome_none] at h1
    exact ⟨0, 0, none, 0, 0, none, 0, 0, by rw [h1, decide_eq_false hm]; rfl⟩
/-- One more is reached. -/
theorem RW.reach (h : RW w wr L rm Rs tv todo) {j : Int} (hj : W64 j) {e : En} (he : at_ L j = some e) (hf : Rs.length ≤ 1000000) :
    ∃ w3, (Instr.mapUpdate 73 (.map (some rm)) (.int .i64 j) e.val).run Try.prog wr = .ok () w3 ∧ RW w w3 L rm (Rs ++ [j]) tv todo ∧ Only (· = rm) wr w3 := by
  obtain ⟨w3, r1, r2, o⟩ := h.mp.store j hj e.val (by omega)
  rw [reachF_add he] at r2
  obtain ⟨es, ck, hm⟩ := h.mp.obj
  exact ⟨w3, r1, ⟨by simpa using r2, h.rml, own_only4 h.row o (fun b hb e => own_not_map4 h.row hb hm e), ⟨o.os.trans h.bel.os, o.tape.trans h.bel.tape, o.output.trans h.bel.output, Nat.le_trans h.bel.size o.size, fun k hk => (o.block k (Nat.lt_of_lt_of_le hk h.bel.size) (fun e => by have := h.rml; omega)).trans (h.bel.block k hk)⟩, h.obs⟩, o⟩
theorem RW.len (h : RW w wr L rm Rs tv todo) (_H : MemR w K m r nv L) (hn : Rs.Nodup) (hw : ∀ i ∈ Rs, W64 i) (hl : ∀ i ∈ Rs, (at_ L i).isSome = true) (ty : TypeId) : (Builtin.len_ #[73] ty #[.map (some rm)]).run Try.prog wr = .ok (.int .i64 Rs.length) wr :=
  h.mp.len Rs hn hw (fun i _ => by
    unfold reachF
    by_cases hi : i ∈ Rs
    · have := hl i hi
      cases hx : at_ L i with
      | none => rw [hx] at this; cases this
      | some e => simp [hi]
    · simp [hi]) ty
/-- One more on the list. -/
theorem RW.push (h : RW w wr L rm Rs tv todo) {y : Li} {o : Obj} {v' : Value} {w4 : World} (hrow : w4.ownsRow w.heap.size 33 4 v' (todo.length + 1) (cellsT todo ++ y.cells)) (hg : (wr.alloc o).grownBy w4 tv.ownBlock) (hy : ObjAt w y.val y.o ∧ y.o.w.length ≤ 1000) :
    RW w w4 L rm Rs v' (todo ++ [y]) := by
  obtain ⟨es, ck, hm⟩ := h.mp.obj
  have o1 : Only (fun g => tv.ownBlock = some g) wr w4 := ⟨hg.os, hg.tape, hg.output, by have := hg.size; simp at this; omega, fun k hk hn => (hg.block k (by simp; omega) (fun e => hn e.symm)).trans (Below.heap_alloc wr o k hk)⟩
  refine ⟨h.mp.only o1 (fun e => own_not_map4 h.row e hm rfl), h.rml, ?_, ⟨o1.os.trans h.bel.os, o1.tape.trans h.bel.tape, o1.output.trans h.bel.output, Nat.le_trans h.bel.size o1.size, fun k hk => (o1.block k (Nat.lt_of_lt_of_le hk h.bel.size) (fun e => by have := (h.row.lt k e).1; omega)).trans (h.bel.block k hk)⟩, fun z hz => ?_⟩
  · unfold ListAt
    rw [cellsT_snoc, List.length_append]
    exact hrow
  · rcases List.mem_append.1 hz with hz | hz
    · exact h.obs z hz
    · rw [List.mem_singleton.1 hz]; exact hy
end
theorem ref_w64 {o : Ob} {k : Nat} (hk : k < (refsO o).length) : W64 ((refsO o).getD k 0) := i64_at (refsL_i64 _) hk
set_option maxHeartbeats 16000000 in
theorem reach_any {w : World} {K : Nat → Prop} {m : Nat} {r : Option Nat} {nv : Value} {L : List (Option En)} (h : MemR w K m r nv L) (rv : Value) (roots : List Int) (hrv : RowI w rv roots) (hrl : roots.length ≤ 1000) :
    Calls Try.prog 57 #[.pointer (some ⟨m, 0, none⟩), rv] w (ReachPost L (refsL roots) w) := by
  obtain ⟨ra, rc, rfl, hrc⟩ := hrv.2.2
  obtain ⟨y0, hy0⟩ : ∃ y0 : Li, y0 = ⟨rootO roots, ra, rc, none, 0⟩ := ⟨_, rfl⟩
  have H0 : Hid (ObjAt w y0.val y0.o ∧ y0.o.w.length ≤ 1000) := by
    subst hy0
    exact Lib.hid ⟨⟨_, _, rfl, hrv, rowB_nil' w, show In64 0 from ⟨by decide, by decide⟩, show In64 0 from ⟨by decide, by decide⟩⟩, hrl⟩
  have HH := Lib.hid h
  have HREF : Hid (∀ wr, Below w.heap.size w wr → ∀ y : Li, ObjAt w y.val y.o → y.o.w.length ≤ 1000 → Calls Try.prog 73 #[y.val] wr fun e w' => ∃ a c, e = .returned (.slice a (refsO y.o).length c) ∧ Hid (w'.ownsRow wr.heap.size 3 1 (.slice a (refsO y.o).length c) (refsO y.o).length ((refsO y.o).map (Value.int .i64))) ∧ Below wr.heap.size wr w') := Lib.hid fun wr hb y ho hl => (refs_any _ y.o wr (ho.kept hb) (by omega)).mono fun e w' ⟨v, he, hr, hb⟩ => by
    obtain ⟨a, c, rfl⟩ := own_form hr
    exact ⟨a, c, he, hr, hb⟩
  obtain ⟨i0, hi0, hz0, hz1, hz2⟩ := info_parts Try.info33
  have hmm := @run_makeMap Try.prog
  have S0 : Hid (RW w ((w.alloc (.map #[] 0)).alloc (.cells #[.int .i64 0, .int .i64 0, .slice ra roots.length rc, .slice none 0 0] 33)) L w.heap.size [] (.slice (some ⟨w.heap.size + 1, 0, none⟩) 1 1) [y0]) := by
    refine Lib.hid ⟨?_, Nat.le_refl _, ?_, (below_new _ _).alloc (by simp) _, fun y hy => by rw [List.mem_singleton.1 hy]; exact H0.out⟩
    · exact ((map_made w).only (only_below (below_new _ _)) id).congr fun i _ => rfl
    · subst hy0
      have := World.ownsRow_lit (base := w.heap.size) (e := 33) (size := 4) (w.alloc (.map #[] 0)) #[.int .i64 0, .int .i64 0, .slice ra roots.length rc, .slice none 0 0] 1 (by simp) (by decide) rfl
      rw [show (w.alloc (.map #[] 0)).heap.size = w.heap.size + 1 by simp] at this
      exact this
  have P0 := Lib.hid (rp_start (mapO En.o L) y0.o)
  have hrt : Hid (refsO y0.o = refsL roots) := by subst hy0; exact Lib.hid (root_refs roots)
  have HCL := Lib.hid (ids_le L)
  have hfew := Lib.hid h.few
  obtain ⟨n, hn⟩ : ∃ n, (ids L).length = n := ⟨_, rfl⟩
  have HNN := Lib.hid hn
  clear h hrv hy0 hn
  go_enter Try.func57, Try.ntmps57
  go_wp2
  go_step3
  go_wp2
  go_step3
  go_wp2
  clear hmm
  go_loopg [6] (2 * n + 1) (fun g s6 wr => ∃ Rs todo, Hid (RW w wr L w.heap.size Rs s6 todo) ∧ Hid (RP (mapO En.o L) y0.o Rs (todo.map Li.o) (fun _ => False)) ∧ (2 * (n - Rs.length) + todo.length ≤ g ∧ todo.length ≤ Rs.length + 1))
  case atStart => exact ⟨[], [y0], S0, P0, by simp, by simp⟩
  case round =>
    obtain ⟨Rs, todo, HW, HP, hg⟩ := hrel
    have HG := Lib.hid hg
    clear hg S0 P0
    rcases List.eq_nil_or_concat todo with rfl | ⟨t, x, rfl⟩
    · have hrow := HW.out.row
      obtain ⟨a, c, rfl⟩ : ∃ a c, u6 = .slice a 0 c := by
        rcases hrow.2 with ⟨rfl, _⟩ | ⟨g, c, _, rfl, _⟩
        · exact ⟨_, _, rfl⟩
        · exact ⟨_, _, rfl⟩
      clear hrow
      go_wp2
      go_ret
      exact ⟨w.heap.size, Rs, rfl, Nat.le_refl _, HW.out.mp, HW.out.bel, fun i => by rw [← hrt.out]; exact HP.out.all i, HP.out.nodup⟩
    · simp only [List.concat_eq_append] at HW HP HG
      obtain ⟨g, c, rfl, hc, hpop, hcells, hgl⟩ := HW.out.row.pop
      obtain ⟨HP1, hsrc⟩ := RP.pop (todo := t.map Li.o) (x := x.o) (by simpa using HP.out)
      obtain ⟨hob, hol⟩ := HW.out.obs x (by simp)
      have HW1 : Hid (RW w wr L w.heap.size Rs (.slice (some ⟨g, 0, none⟩) t.length c) t) := Lib.hid ⟨HW.out.mp, HW.out.rml, hpop, HW.out.bel, fun y hy => HW.out.obs y (by simp [hy])⟩
      have HR := HREF.out wr HW.out.bel x hob hol
      have HP2 := Lib.hid HP1
      have HSR := Lib.hid hsrc
      have HG1 : Hid (2 * (n - Rs.length) + t.length + 1 ≤ gk) := Lib.hid (by have := HG.out.1; simp at this; omega)
      obtain ⟨q, hq⟩ : ∃ q, t.length = q := ⟨_, rfl⟩
      have HQ := Lib.hid hq
      have HT2 : Hid (t.length ≤ Rs.length) := Lib.hid (by have := HG.out.2; simp at this; omega)
      have hqb : q ≤ 1000000000 := by
        have h1 := HP2.out.le
        rw [ids_mapO] at h1
        have := HT2.out
        have := HCL.out
        have := hfew.out
        omega
      obtain ⟨⟨xc, xk, xw, xb⟩, xa1, xc1, xa2, xc2⟩ := x
      have l0 := hcells 0 _ rfl
      have l1 := hcells 1 _ rfl
      have l2 := hcells 2 _ rfl
      have l3 := hcells 3 _ rfl
      simp only [Li.val] at HR
      rw [hq] at l0 l1 l2 l3 hc HW1
      simp only [Nat.add_zero] at l0 l1 l2 l3 HR HSR HP2
      rw [hq]
      obtain ⟨ns, hns⟩ : ∃ ns, refsO ⟨xc, xk, xw, xb⟩ = ns := ⟨_, rfl⟩
      have HNS := Lib.hid hns
      rw [hns] at HR
      have HRR := Lib.hid HR
      have HOL := Lib.hid hol
      have hq1 : IntKind.i64.wrap ((q : Int) + 1 - 1) = q := by rw [IntKind.wrap_i64]; omega
      clear HR hns hcells hpop hsrc HP1 hob hol hq HW HP HG
      go_wp2_with (go_at_call 73; refine HRR.out.mono ?_; rintro e w1 ⟨na, nc, rfl, nrow, nb⟩; have NR := Lib.hid nrow; have NB := Lib.hid nb; clear nrow nb)
      have W1 := Lib.hid (HW1.out.fresh NB.out)
      have NE : Hid (∀ b, (Value.slice (some ⟨g, 0, none⟩) q c).ownBlock = some b → (Value.slice na ns.length nc).ownBlock ≠ some b) := Lib.hid fun b hb e => by
        injection hb with hb
        have := (NR.out.lt b e).1
        simp only at hb
        omega
      obtain ⟨z, hz⟩ : ∃ z, wr.heap.size = z := ⟨_, rfl⟩
      have NRz : Hid (w1.ownsRow z 3 1 (.slice na ns.length nc) ns.length (ns.map (Value.int .i64))) := by rw [← hz]; exact NR
      have NBz : Hid (z ≤ w1.heap.size) := by rw [← hz]; exact Lib.hid NB.out.size
      clear hz NR
      have hnl : ns.length ≤ 1000000 := by
        rw [← HNS.out]
        have h1 := refsL_len (xc :: xw)
        have h2 : (refsO ⟨xc, xk, xw, xb⟩).length = (refsL (xc :: xw)).length := rfl
        have h3 := HOL.out
        simp only [List.length_cons] at h1 h3
        omega
      generalize gk = G0 at *
      have C0 := Lib.hid (CurE.zero (mapO En.o L) ⟨xc, xk, xw, xb⟩ Rs)
      have HQ2 : Hid (t.length = q) := HQ
      go_loopg [6, 35] ns.length (fun g2 s6 s35 wx => ∃ k Rs' todo', s35 = .int .i64 (k : Nat) ∧ k ≤ ns.length ∧ Hid (RW w wx L w.heap.size Rs' s6 todo') ∧ Hid (RP (mapO En.o L) y0.o Rs' (todo'.map Li.o) (· = ⟨xc, xk, xw, xb⟩)) ∧ Hid (SrcE (mapO En.o L) y0.o Rs' ⟨xc, xk, xw, xb⟩) ∧ Hid (CurE (mapO En.o L) ⟨xc, xk, xw, xb⟩ k Rs') ∧ Hid (2 * (n - Rs'.length) + todo'.length + 1 ≤ G0 ∧ todo'.length ≤ Rs'.length) ∧ Hid (wx.ownsRow z 3 1 (.slice na ns.length nc) ns.length (ns.map (Value.int .i64))) ∧ Hid (∀ b, s6.ownBlock = some b → (Value.slice na ns.length nc).ownBlock ≠ some b) ∧ Hid (z ≤ wx.heap.size) ∧ Hid (ns.length - k ≤ g2))
      case atStart => exact ⟨0, Rs, t, rfl, Nat.zero_le _, W1, HP2, HSR, C0, Lib.hid ⟨HG1.out, HT2.out⟩, NRz, NE, NBz, Lib.hid (by omega)⟩
      case round =>
        obtain ⟨k, Rs', todo', rfl, hk, W2, P2, S2, C2, M2, N2, E2, Z2, G2⟩ := hrel
        clear W1 HP2 HSR C0 HG1 HT2 NRz NBz NE HW1 NB HRR
        by_cases hkl : k < ns.length
        · obtain ⟨gb, cb, hax⟩ := own_at N2.out (by omega)
          injection hax with hax1 _ hax2
          subst hax1 hax2
          have rj := (own_cells N2.out).1 k _ (getD_map hkl)
          have hj64 : W64 (ns.getD k 0) := by rw [← HNS.out]; exact ref_w64 (by rw [HNS.out]; exact hkl)
          have hjm : ns.getD k 0 ∈ refsO ⟨xc, xk, xw, xb⟩ := by rw [HNS.out]; simp only [List.getD, List.getElem?_eq_getElem hkl, Option.getD_some]; exact List.getElem_mem _
          have hnx : Hid ((LiveE (mapO En.o L) (ns.getD k 0) → ns.getD k 0 ∈ Rs') → CurE (mapO En.o L) ⟨xc, xk, xw, xb⟩ (k + 1) Rs') := Lib.hid fun hc => C2.out.next (by rw [HNS.out]; exact hkl) (by rw [HNS.out]; exact hc)
          have hnx2 : Hid (∀ Rs'', (CurE (mapO En.o L) ⟨xc, xk, xw, xb⟩ k Rs'') → (LiveE (mapO En.o L) (ns.getD k 0) → ns.getD k 0 ∈ Rs'') → CurE (mapO En.o L) ⟨xc, xk, xw, xb⟩ (k + 1) Rs'') := Lib.hid fun Rs'' h0 hc => h0.next (by rw [HNS.out]; exact hkl) (by rw [HNS.out]; exact hc)
          generalize ns.getD k 0 = j at *
          have hw1 : IntKind.i64.wrap ((k : Int) + 1) = (k : Int) + 1 := by rw [IntKind.wrap_i64]; have := hnl; omega
          have hd : decide ((k : Int) < ns.length) = true := by simpa using hkl
          have hlive : ∀ i ∈ Rs', (at_ L i).isSome = true := fun i hi => by rw [← isSome_map En.o]; exact (P2.out.comes i hi).is
          have M' := HH.out.fresh W2.out.bel
          have q1 := M'.c1
          by_cases hmem : j ∈ Rs'
          · obtain ⟨e1, e2, e3, e4, e5, e6, e7, e8, hv, lk1, lk2⟩ := M'.look j hj64
            obtain ⟨f1, f2, f3, f4, f5, f6, f7, f8, lr⟩ := (W2.out.fresh (below_new wr (.cells #[.int .i64 e1, .int .i64 e2, .slice e3 e4 e5, .slice e6 e7 e8] 33))).look HH.out hlive j hj64
            rw [decide_eq_true hmem] at lr
            have W3 := Lib.hid ((W2.out.fresh (below_new wr (.cells #[.int .i64 e1, .int .i64 e2, .slice e3 e4 e5, .slice e6 e7 e8] 33))).fresh (below_new _ (.cells #[.int .i64 f1, .int .i64 f2, .slice f3 f4 f5, .slice f6 f7 f8] 33)))
            have N3 := Lib.hid (own_kept (own_kept N2.out (below_new wr (.cells #[.int .i64 e1, .int .i64 e2, .slice e3 e4 e5, .slice e6 e7 e8] 33))) (below_new _ (.cells #[.int .i64 f1, .int .i64 f2, .slice f3 f4 f5, .slice f6 f7 f8] 33)))
            have C3 := Lib.hid (hnx.out fun _ => hmem)
            clear hv lk2 M' hlive hmem hjm
            have Z3 : Hid (z ≤ ((wr.alloc (.cells #[.int .i64 e1, .int .i64 e2, .slice e3 e4 e5, .slice e6 e7 e8] 33)).alloc (.cells #[.int .i64 f1, .int .i64 f2, .slice f3 f4 f5, .slice f6 f7 f8] 33)).heap.size) := Lib.hid (by have := Z2.out; simp; omega)
            go_wp2_with fail
            go_roundg (ns.length - (k + 1))
            case measure => have := G2.out; omega
            case rel => exact ⟨k + 1, Rs', todo', by go_num, by omega, W3, P2, S2, C3, M2, N3, E2, Z3, Lib.hid (by omega)⟩
          · cases he : at_ L j with
            | none =>
              obtain ⟨e1, e2, e3, e4, e5, e6, e7, e8, hv, lk1, lk2⟩ := M'.look j hj64
              obtain ⟨f1, f2, f3, f4, f5, f6, f7, f8, lr⟩ := (W2.out.fresh (below_new wr (.cells #[.int .i64 e1, .int .i64 e2, .slice e3 e4 e5, .slice e6 e7 e8] 33))).look HH.out hlive j hj64
              rw [decide_eq_false hmem] at lr
              rw [he] at lk1
              simp only [Option.isSome_none] at lk1
              have W3 := Lib.hid ((W2.out.fresh (below_new wr (.cells #[.int .i64 e1, .int .i64 e2, .slice e3 e4 e5, .slice e6 e7 e8] 33))).fresh (below_new _ (.cells #[.int .i64 f1, .int .i64 f2, .slice f3 f4 f5, .slice f6 f7 f8] 33)))
              have N3 := Lib.hid (own_kept (own_kept N2.out (below_new wr (.cells #[.int .i64 e1, .int .i64 e2, .slice e3 e4 e5, .slice e6 e7 e8] 33))) (below_new _ (.cells #[.int .i64 f1, .int .i64 f2, .slice f3 f4 f5, .slice f6 f7 f8] 33)))
              have C3 := Lib.hid (hnx.out fun hl => by unfold LiveE at hl; rw [isSome_map, he] at hl; cases hl)
              have Z3 : Hid (z ≤ ((wr.alloc (.cells #[.int .i64 e1, .int .i64 e2, .slice e3 e4 e5, .slice e6 e7 e8] 33)).alloc (.cells #[.int .i64 f1, .int .i64 f2, .slice f3 f4 f5, .slice f6 f7 f8] 33)).heap.size) := Lib.hid (by have := Z2.out; simp; omega)
              clear hv lk2 M' hlive hmem hjm he
              go_wp2_with fail
              go_roundg (ns.length - (k + 1))
              case measure => have := G2.out; omega
              case rel => exact ⟨k + 1, Rs', todo', by go_num, by omega, W3, P2, S2, C3, M2, N3, E2, Z3, Lib.hid (by omega)⟩
            | some e =>
              obtain ⟨y, hyo, hyv, hyat, hyl⟩ := (HH.out.rows j e he).li
              obtain ⟨⟨yc, yk, yw, yb⟩, e3, e5, e6, e8⟩ := y
              have HYA := Lib.hid (show ObjAt w (Li.val ⟨⟨yc, yk, yw, yb⟩, e3, e5, e6, e8⟩) ⟨yc, yk, yw, yb⟩ ∧ yw.length ≤ 1000 from ⟨hyat, hyl⟩)
              have lk1 := M'.mp.look j hj64
              simp only [he, Option.map_some, Option.getD_some, Option.isSome_some, ← hyv] at lk1
              obtain ⟨f1, f2, f3, f4, f5, f6, f7, f8, lr⟩ := (W2.out.fresh (below_new wr (.cells #[.int .i64 yc, .int .i64 yk, .slice e3 yw.length e5, .slice e6 yb.length e8] 33))).look HH.out hlive j hj64
              rw [decide_eq_false hmem] at lr
              have W3 := (W2.out.fresh (below_new wr (.cells #[.int .i64 yc, .int .i64 yk, .slice e3 yw.length e5, .slice e6 yb.length e8] 33))).fresh (below_new _ (.cells #[.int .i64 f1, .int .i64 f2, .slice f3 f4 f5, .slice f6 f7 f8] 33))
              have hRl := P2.out.lt (j := j) (by unfold LiveE; rw [isSome_map, he]; rfl) hmem
              rw [ids_mapO] at hRl
              have hid1 := HCL.out
              have hid2 := hfew.out
              obtain ⟨w3, st, W4, O4⟩ := W3.reach hj64 he (by omega)
              rw [← hyv] at st
              simp only [Li.val] at lk1 st
              have BA := ((box_new wr (.int .i64 yc) (.int .i64 yk) (.slice e3 yw.length e5) (.slice e6 yb.length e8)).next (below_new _ (.cells #[.int .i64 f1, .int .i64 f2, .slice f3 f4 f5, .slice f6 f7 f8] 33)))
              have BX := BA.only O4 (box_not_map BA W3.mp)
              have N4 := own_only (own_kept (own_kept N2.out (below_new wr (.cells #[.int .i64 yc, .int .i64 yk, .slice e3 yw.length e5, .slice e6 yb.length e8] 33))) (below_new _ (.cells #[.int .i64 f1, .int .i64 f2, .slice f3 f4 f5, .slice f6 f7 f8] 33))) O4 (fun b hb e => W3.mp.not_own (own_kept (own_kept N2.out (below_new wr (.cells #[.int .i64 yc, .int .i64 yk, .slice e3 yw.length e5, .slice e6 yb.length e8] 33))) (below_new _ (.cells #[.int .i64 f1, .int .i64 f2, .slice f3 f4 f5, .slice f6 f7 f8] 33))) (by rw [hb, e]))
              have hyo' : at_ (mapO En.o L) j = some ⟨yc, yk, yw, yb⟩ := by rw [at_map, he]; exact congrArg some hyo.symm
              have P4 := P2.out.add S2.out hjm hyo' hmem
              have S4 := S2.out.more (j := j)
              have C4 := hnx2.out (Rs' ++ [j]) (C2.out.more) (fun _ => by simp)
              have hlive4 : ∀ i ∈ Rs' ++ [j], (at_ L i).isSome = true := fun i hi => by rw [← isSome_map En.o]; exact (P4.comes i hi).is
              have hw4 : ∀ i ∈ Rs' ++ [j], W64 i := fun i hi => by
                have := ids_rng (P4.sub i hi)
                rw [mapO_len] at this
                exact w64_of (by omega) (by omega)
              have W5 : RW w w3.drew L w.heap.size (Rs' ++ [j]) u6 todo' := W4.fresh (below_drewN w3.heap.size w3 1)
              have M5 := HH.out.fresh W5.bel
              have hl1 := W5.len HH.out P4.nodup hw4 hlive4
              have hl2 := M5.len
              have x1 := M5.c1
              rw [List.length_append, List.length_singleton] at hl1
              rw [HNN.out] at hl2 hRl
              have hNid : (ids (mapO En.o L)).length = n := by rw [ids_mapO]; exact HNN.out
              have hlt3 := M5.lt
              have hZ3 : z ≤ w3.heap.size := by have := Z2.out; have := O4.size; simp at this; omega
              have HW5 := Lib.hid W5
              have HBX := Lib.hid BX
              have HN4 := Lib.hid N4
              have HP4 := Lib.hid P4
              have HS4 := Lib.hid S4
              have HC4 := Lib.hid C4
              have HRl := Lib.hid hRl
              have HNid := Lib.hid hNid
              have HZ4 := Lib.hid hZ3
              clear W3 W4 W5 M5 M' O4 BA BX N4 P4 S4 C4 hyo hyv hyat hyl hyo' hmem hlive hlive4 hw4 hjm he hid1 hid2 hRl hNid hZ3
              by_cases hfull : Rs'.length + 1 = n
              · have hfd : (Rs'.length + 1 == n) = true := by simpa using hfull
                have hfd2 : (((Rs'.length + 1 : Nat) : Int) == (n : Int)) = true := by simp [hfull]
                go_wp2_with fail
                go_region
                all_goals go_simp
                all_goals go_wp2
                all_goals go_ret
                all_goals exact ⟨w.heap.size, Rs' ++ [j], rfl, Nat.le_refl _, HW5.out.mp, HW5.out.bel, fun i => by rw [← hrt.out]; exact HP4.out.full (by rw [HNid.out, List.length_append]; exact hfull) i, HP4.out.nodup⟩
              · have hfd : (Rs'.length + 1 == n) = false := by simpa using hfull
                have hfd2 : (((Rs'.length + 1 : Nat) : Int) == (n : Int)) = false := by simp; omega
                have hbx := HBX.out
                obtain ⟨⟨b0, b1, b2, b3⟩, bf, bl⟩ := hbx
                have hL4 := HW5.out.row
                have hG4 : Hid (2 * (n - (Rs' ++ [j]).length) + (todo'.length + 1) + 1 ≤ G0 ∧ todo'.length + 1 ≤ (Rs' ++ [j]).length) := Lib.hid (by have := M2.out; have := HRl.out; simp; omega)
                have hfull' := Lib.hid hfull
                have htl : todo'.length ≤ 1000001 := by
                  have := M2.out.2
                  have := HRl.out
                  have := HNN.out
                  have := HCL.out
                  have := hfew.out
                  omega
                clear hfull
                go_wp2_with fail
                go_region
                all_goals go_simp
                go_wp2_with (at_builtin; refine wpList_append_own_at _ rfl _ _ 27 rfl w.heap.size 33 i0 zObj 4 64 Try.underlying27 hi0 hz0 hz1 hz2 rfl (by decide) u6 todo'.length (cellsT todo') rfl (World.ownsRow.alloc hL4 _) ⟨w3.heap.size, 0, none⟩ 1 1 [.int .i64 yc, .int .i64 yk, .slice e3 yw.length e5, .slice e6 yb.length e8] rfl rfl ?c1 ?c2 ?c3 ?c4 ?c5 ?_)
                case c1 => exact World.news_of_block (cs := #[.int .i64 yc, .int .i64 yk, .slice e3 yw.length e5, .slice e6 yb.length e8]) (t := 33) (fr := (0, 0)) (heap_alloc_new w3 _)
                case c2 => intro u hu; simp at hu; rcases hu with rfl | rfl | rfl | rfl <;> rfl
                case c3 => unfold maxLen; omega
                case c4 => omega
                case c5 => have := HW5.out.bel.size; simp at this ⊢; omega
                intro v' w4 hown4 hgr4 hnil4 hat4
                have HGR : (w3.drew.alloc (.cells #[.int .i64 yc, .int .i64 yk, .slice e3 yw.length e5, .slice e6 yb.length e8] 33)).grownBy w4 u6.ownBlock := hgr4
                have W6 := Lib.hid (HW5.out.push (y := ⟨⟨yc, yk, yw, yb⟩, e3, e5, e6, e8⟩) hown4 HGR HYA.out)
                have O6 : Only (fun b => u6.ownBlock = some b) w3 w4 := ⟨HGR.os, HGR.tape, HGR.output, by have := HGR.size; simp at this; omega, fun k hk hn => (HGR.block k (by simp; omega) (fun e => hn e.symm)).trans (Below.heap_alloc w3 _ k hk)⟩
                have N6 := Lib.hid (own_only HN4.out O6 (fun b hb e => E2.out b e hb))
                have E6 : Hid (∀ b, v'.ownBlock = some b → (Value.slice (some ⟨gb, 0, none⟩) ns.length nc).ownBlock ≠ some b) := Lib.hid fun b hb e => by
                  rcases hat4 with h | h
                  · rw [h] at hb; exact E2.out b hb e
                  · rw [h] at hb
                    injection hb with hb
                    have := (HN4.out.lt b e).2
                    first | omega | (simp at hb; omega)
                have Z6 : Hid (z ≤ w4.heap.size) := Lib.hid (Nat.le_trans HZ4.out O6.size)
                have P6 : Hid (RP (mapO En.o L) y0.o (Rs' ++ [j]) ((todo' ++ [(⟨⟨yc, yk, yw, yb⟩, e3, e5, e6, e8⟩ : Li)]).map Li.o) (· = ⟨xc, xk, xw, xb⟩)) := by
                  have := HP4.out
                  rw [List.map_append]
                  exact Lib.hid this
                have G6 : Hid (2 * (n - (Rs' ++ [j]).length) + (todo' ++ [(⟨⟨yc, yk, yw, yb⟩, e3, e5, e6, e8⟩ : Li)]).length + 1 ≤ G0 ∧ (todo' ++ [(⟨⟨yc, yk, yw, yb⟩, e3, e5, e6, e8⟩ : Li)]).length ≤ (Rs' ++ [j]).length) := by
                  have := hG4.out
                  have hy : (todo' ++ [(⟨⟨yc, yk, yw, yb⟩, e3, e5, e6, e8⟩ : Li)]).length = todo'.length + 1 := by simp
                  rw [hy]
                  exact Lib.hid this
                clear hown4 hgr4 hnil4 hat4 HGR O6 HN4 HW5 HP4 hG4 hL4
                go_wp2_with fail
                go_roundg (ns.length - (k + 1))
                case measure => have := G2.out; omega
                case rel => exact ⟨k + 1, Rs' ++ [j], todo' ++ [⟨⟨yc, yk, yw, yb⟩, e3, e5, e6, e8⟩], by go_num, by omega, W6, P6, HS4, HC4, G6, N6, E6, Z6, Lib.hid (by omega)⟩
        · obtain rfl : k = ns.length := by omega
          have HPD := Lib.hid (P2.out.done (by rw [HNS.out]; exact C2.out))
          have HGD : Hid (2 * (n - Rs'.length) + todo'.length ≤ G0 - 1 ∧ todo'.length ≤ Rs'.length + 1) := Lib.hid (by have := M2.out; omega)
          have HG0 : Hid (0 < G0) := Lib.hid (by have := M2.out; omega)
          go_wp2_with fail
          go_roundg (G0 - 1)
          case measure => have := HG0.out; omega
          case rel => exact ⟨Rs', todo', W2, HPD, HGD.out⟩
end Go.Proofs.Ytmaeoefimkppoaa.Fl

/- What Collect of a memory does. -/
namespace Go.Proofs.Ytmaeoefimkppoaa.Fl
set_option maxRecDepth 1000000
open Go.ChangeShapes Go.WideShapes Go.ChangeAt Go.RowKit
open Go.Proofs.Ytmaeoefimkppoaa.Wd

def inB (Rs : List Int) (i : Int) : Bool := decide (i ∈ Rs)
theorem reach_mask (L : List (Option En)) (Rs : List Int) : reachF L Rs = fun i => (at_ (mask (inB Rs) L) i).map En.val := by
  funext i
  unfold reachF inB
  rw [at_mask]
  by_cases h : i ∈ Rs <;> simp [h]
section
variable {w w' : World} {K : Nat → Prop} {m : Nat} {r : Option Nat} {nv : Value} {L : List (Option En)}
theorem MemR.collected (h : MemR w K m r nv L) {rm : Nat} {nv' : Value} {Rs : List Int} (o : Only (· = m) w w') (hrs : ∀ i ∈ Rs, i ∈ ids L) (hnd : Rs.Nodup)
    (c0 : w'.cell? ⟨m, 0, none⟩ = some (.int .i64 (L.length : Nat))) (c1 : w'.cell? ⟨m, 1, none⟩ = some (.map (some rm))) (c2 : w'.cell? ⟨m, 2, none⟩ = some nv') (fz : ∀ j, w'.frozen? ⟨m, j, none⟩ = false)
    (mp : MapV w' rm Rs.length (reachF L Rs)) (rml : w.heap.size ≤ rm) (nums : w'.ownsRow w.heap.size 3 1 nv' (ids (mask (inB Rs) L)).length ((ids (mask (inB Rs) L)).map (Value.int .i64))) :
    MemR w' K m (some rm) nv' (mask (inB Rs) L) := by
  have was : ∀ {i e}, at_ (mask (inB Rs) L) i = some e → at_ L i = some e := fun {i e} he => by
    rw [at_mask] at he
    split at he
    · exact he
    · cases he
  have nk : ∀ g, w.heap.size ≤ g → ¬ K g := fun g hg hk => by have := h.kb g hk; omega
  have nm : ∀ g, w.heap.size ≤ g → g ≠ m := fun g hg e => by have := h.lt; omega
  have hnb : ∀ g, nv'.ownBlock = some g → w.heap.size ≤ g := fun g hg => (nums.lt g hg).1
  refine { c0 := by rw [mask_len]; exact c0, c1 := c1, c2 := c2, fz := fz, mp := .inr ⟨rm, rfl, ?_⟩, nums := own_down nums (Nat.zero_le _), rows := fun i e he => (h.rows i e (was he)).only o (fun g hg e' => (h.off i e (was he) g hg).2 e'), apart := fun i j e e' he he' => h.apart i j e e' (was he) (was he'), off := fun i e he g hg => ⟨fun hg2 => ?_, (h.off i e (was he) g hg).2⟩, offn := fun g hg => nm g (hnb g hg), offr := fun b hb => (by cases hb; exact nm _ rml), km := h.km, kr := fun b hb => (by cases hb; exact nk _ rml), kn := fun g hg => nk g (hnb g hg), ko := fun i e he => h.ko i e (was he), kb := fun g hg => Nat.lt_of_lt_of_le (h.kb g hg) o.size, lt := Nat.lt_of_lt_of_le h.lt o.size, few := by rw [mask_len]; exact h.few }
  · rw [mask_len]
    have h1 := nodup_le hnd hrs
    have h2 := ids_le L
    rw [← reach_mask]
    exact mp.mono (by omega)
  · have := hnb g hg2
    have := (h.rows i e (was he)).lt hg
    omega
end
def CollPost (K : Nat → Prop) (m : Nat) (E : Mem) (rs : List Int) (w : World) (e : Ending) (w' : World) : Prop := e = .returned (.tuple #[.int .i64 (collN E rs), .int .i64 0]) ∧ MemB K w' m (collF E rs) ∧ Keeps K w w'
theorem coll_eq {L : List (Option En)} {rs Rs : List Int} (h : ∀ i, i ∈ Rs ↔ Comes (mapO En.o L) rs i) : mapO En.o (mask (inB Rs) L) = collF (mapO En.o L) rs := by
  rw [mapO_mask]
  unfold collF
  congr 1
  funext i
  unfold inB
  rw [Bool.eq_iff_iff, comesB_iff, ← h i]
  simp
set_option maxHeartbeats 2000000 in
theorem collect_any {w : World} {K : Nat → Prop} {m : Nat} {E : Mem} (h : MemB K w m E) (rv : Value) (roots : List Int) (hrv : RowI w rv roots) (hrl : roots.length ≤ 1000) :
    Calls Try.prog 29 #[.pointer (some ⟨m, 0, none⟩), rv] w (CollPost K m E (refsL roots) w) := by
  obtain ⟨r, nv, L, h, rfl⟩ := h
  obtain ⟨ra, rc, rfl, hrc⟩ := hrv.2.2
  have HH := Lib.hid h
  have HRE := Lib.hid (reach_any h _ roots hrv hrl)
  have q0 := h.c0
  have q1 := h.c1
  have q2 := h.c2
  have qf := h.fz
  have hlt := h.lt
  have hlen := h.len
  have hfew : (ids L).length ≤ 1000000 := Nat.le_trans (ids_le L) h.few
  obtain ⟨n, hn⟩ : ∃ n, (ids L).length = n := ⟨_, rfl⟩
  have HNN := Lib.hid hn
  rw [hn] at hlen hfew
  clear h hrv hn
  go_enter Try.func29, Try.ntmps29
  go_wp2_with fail
  refine HRE.out.mono ?_
  rintro e w1 ⟨rm, Rs, rfl, hrm, hmp, hb, hcm, hnd⟩
  have HND := Lib.hid hnd
  clear hnd
  have HHb := HH.out.fresh hb
  have x0 := HHb.c0
  have x1 := HHb.c1
  have x2 := HHb.c2
  have xf := HHb.fz
  have xl := HHb.lt
  have hbz := hb.size
  have hnr : ¬ (rm = m) := fun e => by omega
  have o2 : Only (· = m) w1 (w1.setCell ⟨m, 1, none⟩ (.map (some rm))) := only_set w1 m 1 _
  have hmp2 : MapV (w1.setCell ⟨m, 1, none⟩ (.map (some rm))) rm Rs.length (reachF L Rs) := hmp.only o2 hnr
  have hkey : ∀ i, W64 i → (i ∈ ids (mask (inB Rs) L) ↔ (reachF L Rs i).isSome = true) := fun i _ => by
    rw [mem_ids, reach_mask]
    show _ ↔ ((at_ (mask (inB Rs) L) i).map En.val).isSome = true
    cases at_ (mask (inB Rs) L) i <;> simp
  have hw64 : ∀ i ∈ ids (mask (inB Rs) L), W64 i := ids_w64 (by rw [mask_len]; exact HH.out.few)
  have hil : (ids (mask (inB Rs) L)).length ≤ 1000000 := Nat.le_trans (ids_le _) (by rw [mask_len]; exact HH.out.few)
  have HSO := Lib.hid (sorted_any hmp2 (ids (mask (inB Rs) L)) (ids_rise _) hw64 hkey hil)
  have g1 : (w1.setCell ⟨m, 1, none⟩ (.map (some rm))).cell? ⟨m, 1, none⟩ = some (.map (some rm)) := World.cell?_setCell_same _ _ _ x1
  have g0 : (w1.setCell ⟨m, 1, none⟩ (.map (some rm))).cell? ⟨m, 0, none⟩ = some (.int .i64 (L.length : Nat)) := by rw [World.cell?_setCell_other _ _ _ _ (by simp)]; exact x0
  have g2 : (w1.setCell ⟨m, 1, none⟩ (.map (some rm))).cell? ⟨m, 2, none⟩ = some nv := by rw [World.cell?_setCell_other _ _ _ _ (by simp)]; exact x2
  have gf : ∀ j, (w1.setCell ⟨m, 1, none⟩ (.map (some rm))).frozen? ⟨m, j, none⟩ = false := fun j => by rw [World.frozen?_setCell]; exact xf j
  have gl : m < (w1.setCell ⟨m, 1, none⟩ (.map (some rm))).heap.size := by simpa [World.setCell] using xl
  have HMP := Lib.hid hmp2
  have HB := Lib.hid hb
  have HO2 := Lib.hid o2
  have HCM := Lib.hid hcm
  have HRM := Lib.hid hrm
  have HKY := Lib.hid hkey
  have HWK := Lib.hid hw64
  have hle : (ids (mask (inB Rs) L)).length ≤ (ids L).length := nodup_le (ids_nodup _) (fun i hi => by
    rw [mem_ids, at_mask] at hi
    split at hi
    · exact mem_ids.2 hi
    · cases hi)
  obtain ⟨kn, hkn⟩ : ∃ kn, (ids (mask (inB Rs) L)).length = kn := ⟨_, rfl⟩
  have HKN := Lib.hid hkn
  rw [HNN.out] at hle
  rw [hkn] at hle hil
  clear hmp hmp2 hb o2 hcm hrm hkey hw64 HHb HRE q0 q1 q2 qf hlt hkn x0 x2 hnr
  have hwr : wrap64 ((n : Int) - kn) = (n : Int) - kn := by unfold wrap64; omega
  go_wp2_with fail
  refine HSO.out.mono ?_
  rintro e w3 ⟨nv', rfl, hown, hb3⟩
  obtain ⟨an, cn, rfl⟩ := own_form hown
  have y0 := (hb3.cell (p := ⟨m, 0, none⟩) gl).trans g0
  have y1 := (hb3.cell (p := ⟨m, 1, none⟩) gl).trans g1
  have y2 := (hb3.cell (p := ⟨m, 2, none⟩) gl).trans g2
  have yf := fun j => (hb3.frozen (p := ⟨m, j, none⟩) gl).trans (gf j)
  have yl := Nat.lt_of_lt_of_le gl hb3.size
  have hms : w.heap.size ≤ (w1.setCell ⟨m, 1, none⟩ (.map (some rm))).heap.size := by simpa [World.setCell] using hbz
  have hmn : m < w.heap.size := HH.out.lt
  have o3 : Only (· = m) w w3 := by
    refine ⟨(hb3.os.trans HO2.out.os).trans HB.out.os, (hb3.tape.trans HO2.out.tape).trans HB.out.tape, (hb3.output.trans HO2.out.output).trans HB.out.output, Nat.le_trans hms hb3.size, fun k hk hne => ?_⟩
    exact ((hb3.block k (Nat.lt_of_lt_of_le hk hms)).trans (HO2.out.block k (Nat.lt_of_lt_of_le hk hbz) hne)).trans (HB.out.block k hk)
  have o4 := only_set w3 m 2 (.slice an (ids (mask (inB Rs) L)).length cn)
  have o5 : Only (· = m) w (w3.setCell ⟨m, 2, none⟩ (.slice an (ids (mask (inB Rs) L)).length cn)) := o3.trans o4
  have hmp3 : MapV (w3.setCell ⟨m, 2, none⟩ (.slice an (ids (mask (inB Rs) L)).length cn)) rm Rs.length (reachF L Rs) := (HMP.out.only (only_below hb3) id).only o4 (fun e => by have := HRM.out; omega)
  have hl3 := hmp3.len (ids (mask (inB Rs) L)) (ids_nodup _) HWK.out HKY.out
  have hown4 := own_only (own_down hown hms) o4 (fun g hg e => by have := (hown.lt g hg).1; omega)
  have HC := Lib.hid (HH.out.collected o5 (fun i hi => by
    have := ((HCM.out i).1 hi).is
    rw [isSome_map] at this
    exact mem_ids.2 this) HND.out (by rw [World.cell?_setCell_other _ _ _ _ (by simp)]; exact y0) (by rw [World.cell?_setCell_other _ _ _ _ (by simp)]; exact y1) (World.cell?_setCell_same _ _ _ y2) (fun j => by rw [World.frozen?_setCell]; exact yf j) hmp3 HRM.out hown4)
  have HK : Hid (Keeps K w (w3.setCell ⟨m, 2, none⟩ (.slice an (ids (mask (inB Rs) L)).length cn))) := Lib.hid (only_keeps o5 HH.out.km)
  have HN2 : Hid (collN (mapO En.o L) (refsL roots) = (n : Int) - kn) := Lib.hid (by
    unfold collN
    rw [← coll_eq HCM.out, ids_mapO, ids_mapO, HNN.out, HKN.out])
  have z1 : (w3.setCell ⟨m, 2, none⟩ (.slice an (ids (mask (inB Rs) L)).length cn)).cell? ⟨m, 1, none⟩ = some (.map (some rm)) := by rw [World.cell?_setCell_other _ _ _ _ (by simp)]; exact y1
  rw [HKN.out] at hl3 z1 HC HK
  have HKN2 := HKN.out
  rw [HKN2]
  clear o3 o4 o5 hmp3 hown4 hown hb3 g0 g1 g2 gf x1 HO2 HB HMP HSO hms HKN2
  go_wp2
  go_ret2
  refine ⟨by rw [HN2.out]; rfl, ⟨_, _, _, HC.out, (coll_eq HCM.out).symm⟩, HK.out⟩
end Go.Proofs.Ytmaeoefimkppoaa.Fl

/- Calls of a memory through the interface of package flat: what some, All, Class, Size return. -/
namespace Go.Proofs.Ytmaeoefimkppoaa.Fl
set_option maxRecDepth 1000000
open Go.ChangeShapes Go.WideShapes Go.ChangeAt Go.RowKit
open Go.Proofs.Ytmaeoefimkppoaa.Wd

/-- A memory as a value of the interface. -/
abbrev ifM (m : Nat) : Value := .iface 25 (.pointer (some ⟨m, 0, none⟩))
theorem eq_nil (w : World) (m : Nat) : (binOp .eql 77 (ifM m) Value.nilIface).run Try.prog w = .ok (.bool false) w := by rfl
theorem some_any (m : Nat) (w : World) : Calls Try.prog 47 #[ifM m] w fun e w' => e = .returned (ifM m) ∧ w = w' := by
  have h := fun w => eq_nil w m
  go_enter Try.func47, Try.ntmps47
  go_wp2
  go_ret
  exact ⟨rfl, rfl⟩
/-- Where All stands behind k of them. -/
def oAt (xs : List Int) (k : Nat) : Int := if k < xs.length then 2 * xs.getD k 0 else 0
def prevO (xs : List Int) (k : Nat) : Int := if k = 0 then 0 else 2 * xs.getD (k - 1) 0
theorem ids_at {E : Mem} {k : Nat} (hk : k < (ids E).length) : (ids E).getD k 0 ∈ ids E := by simp only [List.getD, List.getElem?_eq_getElem hk, Option.getD_some]; exact List.getElem_mem _
theorem nam_two {i : Int} (h1 : 1 ≤ i) (h2 : i ≤ 1000000) : namV (2 * i) = i := by
  unfold namV namB
  rw [if_pos (by simp; omega)]
  omega
theorem next_step {E : Mem} (hf : E.length ≤ 1000000) {k : Nat} (hk : k ≤ (ids E).length) : nextN E (prevO (ids E) k) = oAt (ids E) k ∧ nextB E (prevO (ids E) k) = decide (k < (ids E).length) := by
  have hg : ∀ j, j < (ids E).length → 1 ≤ (ids E).getD j 0 ∧ (ids E).getD j 0 ≤ 1000000 := fun j hj => by
    have := ids_rng (ids_at hj)
    omega
  have hn : nxt E (prevO (ids E) k) = (ids E)[k]? := by
    apply from_next
    have h0 : namV (prevO (ids E) k) = if k = 0 then 0 else (ids E).getD (k - 1) 0 := by
      unfold prevO
      by_cases h : k = 0
      · rw [if_pos h, if_pos h]; rfl
      · rw [if_neg h, if_neg h]
        have := hg (k - 1) (by omega)
        exact nam_two this.1 this.2
    rw [h0]
    refine ⟨hk, fun j hj => ?_, fun j hj hj2 => ?_⟩
    · rw [if_neg (by omega)]
      by_cases h : j = k - 1
      · rw [h]; omega
      · have := rise_at (ids_rise E) (i := j) (j := k - 1) (by omega) (by omega)
        omega
    · by_cases h : k = 0
      · rw [if_pos h]
        have := hg j hj2
        omega
      · rw [if_neg h]
        have := rise_at (ids_rise E) (i := k - 1) (j := j) (by omega) hj2
        omega
  unfold nextN nextB oAt
  rw [hn]
  by_cases h : k < (ids E).length
  · rw [if_pos h, List.getElem?_eq_getElem h]
    simp [List.getD, h]
  · rw [if_neg h, List.getElem?_eq_none (by omega)]
    simp [h]
theorem prev_of {xs : List Int} {k : Nat} (hk : k < xs.length) : oAt xs k = prevO xs (k + 1) := by
  unfold oAt prevO
  rw [if_pos hk, if_neg (by omega)]
  simp
theorem take_two {xs : List Int} {k : Nat} (hk : k < xs.length) : ((xs.take (k + 1)).map fun i => 2 * i) = ((xs.take k).map fun i => 2 * i) ++ [oAt xs k] := by
  rw [List.take_succ_eq_append_getElem hk, List.map_append]
  unfold oAt
  rw [if_pos hk]
  simp [List.getD, List.getElem?_eq_getElem hk]
theorem prev_in {E : Mem} (hf : E.length ≤ 1000000) {k : Nat} (hk : k ≤ (ids E).length) : In64 (prevO (ids E) k) := by
  unfold prevO
  by_cases h : k = 0
  · rw [if_pos h]; constructor <;> decide
  · rw [if_neg h]
    have := ids_rng (ids_at (E := E) (k := k - 1) (by omega))
    constructor <;> omega
def twoL (xs : List Int) : List Int := xs.map fun i => 2 * i
set_option maxHeartbeats 4000000 in
theorem all_any {w : World} {K : Nat → Prop} {m : Nat} {E : Mem} (h : MemB K w m E) : Calls Try.prog 19 #[ifM m] w (GaveI (twoL (ids E)) w) := by
  have HN : Hid (∀ wr k, Below w.heap.size w wr → k ≤ (ids E).length → Calls Try.prog 37 #[.pointer (some ⟨m, 0, none⟩), .int .i64 (prevO (ids E) k)] wr fun e w' => e = .returned (.tuple #[.int .i64 (oAt (ids E) k), .bool (decide (k < (ids E).length))]) ∧ wr = w') := Lib.hid fun wr k hb hk => (next_any (h.fresh hb) _ (prev_in h.few hk)).mono fun e w' ⟨he, hw⟩ => by
    rw [(next_step h.few hk).1, (next_step h.few hk).2] at he
    exact ⟨he, hw⟩
  have HL := Lib.hid (Nat.le_trans (ids_le E) h.few)
  clear h
  unfold twoL
  generalize ids E = xs at *
  have HP0 := HN.out w 0 (Below.refl _ _) (Nat.zero_le _)
  rw [show prevO xs 0 = 0 from rfl] at HP0
  have HP := Lib.hid HP0
  clear HP0
  obtain ⟨i0, hi, hz0, hz1, hz2⟩ := info_parts Try.info3
  go_enter Try.func19, Try.ntmps19
  go_wp2_with (go_at_call 47; refine (some_any _ _).mono ?_; rintro e' w1 ⟨rfl, rfl⟩)
  refine HP.out.mono ?_
  rintro e w1 ⟨rfl, rfl⟩
  generalize hb0 : decide (0 < xs.length) = bb
  have HB0 := Lib.hid hb0
  clear hb0
  go_wp2
  go_loopg [3, 4, 5] xs.length (fun g s3 s4 s5 wr => ∃ k : Nat, k ≤ xs.length ∧ s4 = .int .i64 (oAt xs k) ∧ s5 = .bool (decide (k < xs.length)) ∧ wr.ownsRow w.heap.size 3 1 s3 k (((xs.take k).map fun i => 2 * i).map (Value.int .i64)) ∧ Below w.heap.size w wr ∧ xs.length - k ≤ g)
  case atStart => exact ⟨0, Nat.zero_le _, rfl, by rw [HB0.out], World.ownsRow_nil _ _ _ _, Below.refl _ _, by omega⟩
  case round =>
    obtain ⟨k, hk, rfl, rfl, hown, hb, hg⟩ := hrel
    obtain ⟨an, cn, rfl⟩ := own_form hown
    have HB := Lib.hid hb
    have HG := Lib.hid hg
    clear hb hg
    by_cases hkl : k < xs.length
    · have hd : decide (k < xs.length) = true := by simpa using hkl
      have HC : Hid (∀ w3, Below w.heap.size w w3 → Calls Try.prog 37 #[.pointer (some ⟨m, 0, none⟩), .int .i64 (prevO xs (k + 1))] w3 fun e w' => e = .returned (.tuple #[.int .i64 (oAt xs (k + 1)), .bool (decide (k + 1 < xs.length))]) ∧ w3 = w') := Lib.hid fun w3 hb => HN.out w3 (k + 1) hb hkl
      have HT := Lib.hid (take_two hkl)
      rw [← prev_of hkl] at HC
      have hlx := HL.out
      rw [hd]
      clear hd
      generalize oAt xs k = ok at *
      go_wp2_with (at_builtin; refine wpList_append_own_at _ rfl _ _ 30 rfl w.heap.size 3 i0 (.int .i64 0) 1 8 Try.underlying30 hi hz0 hz1 hz2 rfl (by decide) _ _ _ rfl (hown.alloc _) ⟨wr.heap.size, 0, none⟩ 1 1 [.int .i64 ok] rfl rfl ?c1 ?c2 ?c3 ?c4 ?c5 ?_)
      case c1 => exact World.news_of_block (cs := #[.int .i64 ok]) (t := 3) (fr := (0, 0)) (heap_alloc_new wr _)
      case c2 => intro u hu; simp at hu; subst hu; rfl
      case c3 => unfold maxLen; omega
      case c4 => omega
      case c5 => have := HB.out.size; simp; omega
      intro v' w3 hown3 hgr3 hnil3 hat3
      have HB3 : Hid (Below w.heap.size w w3) := Lib.hid ((HB.out.trans ((below_new wr _).mono HB.out.size)).trans (grown_below hgr3 (fun g hg => (hown.lt g hg).1) (Nat.le_trans HB.out.size (by simp))))
      have HO : Hid (w3.ownsRow w.heap.size 3 1 v' (k + 1) (((xs.take (k + 1)).map fun i => 2 * i).map (Value.int .i64))) := by
        refine Lib.hid ?_
        rw [HT.out, List.map_append]
        simpa using hown3
      clear hown3 hgr3 hnil3 hat3 hown
      obtain ⟨an', cn', rfl⟩ := own_form HO.out
      go_wp2_with fail
      refine (HC.out w3 HB3.out).mono ?_
      rintro e w4 ⟨rfl, rfl⟩
      generalize hb1 : decide (k + 1 < xs.length) = b1
      have HB1 := Lib.hid hb1
      clear hb1
      generalize hx1 : oAt xs (k + 1) = o1
      have HX1 := Lib.hid hx1
      clear hx1
      go_wp2
      go_roundg (xs.length - (k + 1))
      case measure => have := HG.out; omega
      case rel => exact ⟨k + 1, by omega, by rw [HX1.out], by rw [HB1.out], HO.out, HB3.out, by omega⟩
    · have hd : decide (k < xs.length) = false := by simpa using hkl
      obtain rfl : k = xs.length := by omega
      rw [hd]
      rw [List.take_length] at hown
      have HO := Lib.hid hown
      clear hown
      go_wp2
      go_ret
      exact ⟨_, rfl, by simpa using HO.out, HB.out⟩
end Go.Proofs.Ytmaeoefimkppoaa.Fl
