/- What reachable of a memory returns: the objects that one comes to, by their numbers. -/
import Derived.Test.YtmaeoefimkppoaaFRc
import Derived.Deep.LoopGhost
import Derived.WalkMore
namespace Go.Proofs.Ytmaeoefimkppoaa.Fl
set_option maxRecDepth 1000000
open Go.ChangeShapes Go.WideShapes Go.ChangeAt Go.RowKit
open Go.Proofs.Ytmaeoefimkppoaa.Wd

theorem Try.info33 : (Try.prog.info? 33).map (fun i => (i.zero, i.size, i.bytes)) = some (some zObj, 4, 64) := by kernel_rfl
/-- An object on the list. -/
structure Li where
  o : Ob
  a1 : Option Addr
  c1 : Nat
  a2 : Option Addr
  c2 : Nat
def Li.val (y : Li) : Value := .agg #[.int .i64 y.o.c, .int .i64 y.o.k, .slice y.a1 y.o.w.length y.c1, .slice y.a2 y.o.b.length y.c2]
def Li.cells (y : Li) : List Value := [.int .i64 y.o.c, .int .i64 y.o.k, .slice y.a1 y.o.w.length y.c1, .slice y.a2 y.o.b.length y.c2]
def cellsT (l : List Li) : List Value := l.flatMap Li.cells
theorem cellsT_snoc (l : List Li) (y : Li) : cellsT (l ++ [y]) = cellsT l ++ y.cells := by simp [cellsT]
theorem cellsT_len (l : List Li) : (cellsT l).length = l.length * 4 := by
  induction l with
  | nil => rfl
  | cons a r ih => simp only [cellsT, List.flatMap_cons, List.length_append, List.length_cons] at ih ⊢; rw [ih]; simp [Li.cells]; omega
/-- The list in memory, from block q on. -/
def ListAt (q : Nat) (w : World) (v : Value) (l : List Li) : Prop := w.ownsRow q 33 4 v l.length (cellsT l)
theorem own_only4 {w w' : World} {base n s : Nat} {e : TypeId} {v : Value} {xs : List Value} {F : Nat → Prop} (h : w.ownsRow base e s v n xs) (o : Only F w w') (hF : ∀ b, v.ownBlock = some b → ¬ F b) : w'.ownsRow base e s v n xs :=
  ⟨h.1, h.2.imp id fun ⟨g, cap, cur, h1, h2, h3, h4⟩ => ⟨g, cap, cur, h1, h2, (o.block g (Array.getElem?_eq_some_iff.1 h3).1 (hF g (by rw [h1]; rfl))).trans h3, h4⟩⟩
theorem ListAt.fresh {q : Nat} {w w' : World} {v : Value} {l : List Li} (h : ListAt q w v l) (hb : Below w.heap.size w w') : ListAt q w' v l := own_only4 h (only_below hb) (fun _ _ h => h)
/-- One less: the slice ends earlier. -/
theorem ListAt.pop {q : Nat} {w : World} {v : Value} {l : List Li} {y : Li} (h : ListAt q w v (l ++ [y])) : ∃ g c, v = .slice (some ⟨g, 0, none⟩) (l.length + 1) c ∧ l.length + 1 ≤ c ∧ ListAt q w (.slice (some ⟨g, 0, none⟩) l.length c) l ∧
    (∀ j u, y.cells[j]? = some u → w.cell? ⟨g, l.length * 4 + j, none⟩ = some u) ∧ g < w.heap.size := by
  obtain ⟨hl, h⟩ := h
  rw [List.length_append, List.length_singleton] at h hl
  rcases h with ⟨_, h0⟩ | ⟨g, cap, cur, rfl, hb, hg, hnc, hcm, hcs, ht⟩
  · omega
  refine ⟨g, cap, rfl, hnc, ⟨cellsT_len l, .inr ⟨g, cap, cur, rfl, hb, hg, by omega, hcm, hcs, ?_⟩⟩, fun j u hu => ?_, (Array.getElem?_eq_some_iff.1 hg).1⟩
  · rw [cellsT_snoc] at ht
    have := congrArg (List.take (l.length * 4)) ht
    rw [List.take_take, Nat.min_eq_left (by omega), List.take_left' (cellsT_len l)] at this
    exact this
  · have hj : j < 4 := (List.getElem?_eq_some_iff.1 hu).1
    have h2 : (cellsT (l ++ [y]))[l.length * 4 + j]? = some u := by
      rw [cellsT_snoc, List.getElem?_append_right (by rw [cellsT_len]; omega), cellsT_len, show l.length * 4 + j - l.length * 4 = j by omega]
      exact hu
    rw [← ht, List.getElem?_take, if_pos (by omega), Array.getElem?_toList] at h2
    rw [cell_of_row w g (l.length * 4 + j) cur 33 (0, 0) hg]
    exact h2
def reachF (L : List (Option En)) (Rs : List Int) : Int → Option Value := fun i => if i ∈ Rs then (at_ L i).map En.val else none
theorem reachF_add {L : List (Option En)} {Rs : List Int} {j : Int} {e : En} (he : at_ L j = some e) : putM (reachF L Rs) j e.val = reachF L (Rs ++ [j]) := by
  funext i
  unfold putM reachF
  by_cases h : i = j
  · subst h; simp [he]
  · rw [if_neg h]; simp [h]
structure RW (w wr : World) (L : List (Option En)) (rm : Nat) (Rs : List Int) (tv : Value) (todo : List Li) : Prop where
  mp : MapV wr rm Rs.length (reachF L Rs)
  rml : w.heap.size ≤ rm
  row : ListAt w.heap.size wr tv todo
  bel : Below w.heap.size w wr
  obs : ∀ y ∈ todo, ObjAt w y.val y.o ∧ y.o.w.length ≤ 1000
theorem RW.fresh {w wr w' : World} {L : List (Option En)} {rm : Nat} {Rs : List Int} {tv : Value} {todo : List Li} (h : RW w wr L rm Rs tv todo) (hb : Below wr.heap.size wr w') : RW w w' L rm Rs tv todo :=
  ⟨h.mp.only (only_below hb) id, h.rml, h.row.fresh hb, h.bel.trans (hb.mono h.bel.size), h.obs⟩
def ReachPost (L : List (Option En)) (rs : List Int) (w : World) (e : Ending) (w' : World) : Prop :=
  ∃ rm Rs, e = .returned (.map (some rm)) ∧ w.heap.size ≤ rm ∧ MapV w' rm Rs.length (reachF L Rs) ∧ Below w.heap.size w w' ∧ (∀ i, i ∈ Rs ↔ Comes (mapO En.o L) rs i) ∧ Rs.Nodup
def rootO (roots : List Int) : Ob := ⟨0, 0, roots, []⟩
theorem root_refs (roots : List Int) : refsO (rootO roots) = refsL roots := by
  unfold refsO rootO refsL
  rw [List.filterMap_cons]
  rfl
theorem En.Row.li {w : World} {e : En} (h : e.Row w) : ∃ y : Li, y.o = e.o ∧ y.val = e.val ∧ ObjAt w y.val y.o ∧ y.o.w.length ≤ 1000 := by
  have ho := h.obj
  have hs := (ok_short h.ok).1
  obtain ⟨wv, bv, hv, ⟨_, _, a1, c1, rfl, _⟩, ⟨_, _, a2, c2, rfl, _⟩, _⟩ := ho
  exact ⟨⟨e.o, a1, c1, a2, c2⟩, rfl, hv.symm, by rw [show Li.val ⟨e.o, a1, c1, a2, c2⟩ = e.val from hv.symm]; exact h.obj, hs⟩
theorem own_not_map4 {w : World} {base n s : Nat} {e : TypeId} {v : Value} {xs : List Value} (h : w.ownsRow base e s v n xs) {g b : Nat} (hg : v.ownBlock = some g) {es : Array MapEntry} {ck : Nat} (hb : w.heap[b]? = some (.map es ck)) : g ≠ b := by
  rintro rfl
  rcases h.2 with ⟨rfl, _⟩ | ⟨g1, _, _, rfl, _, h3, _⟩
  · cases hg
  · simp only [Value.ownBlock, Option.some.injEq] at hg
    subst hg
    rw [h3] at hb
    cases hb
section
variable {w wr w' : World} {K : Nat → Prop} {m : Nat} {r : Option Nat} {nv : Value} {L : List (Option En)} {rm : Nat} {Rs : List Int} {tv : Value} {todo : List Li}
theorem RW.look (h : RW w wr L rm Rs tv todo) (H : MemR w K m r nv L) (hl : ∀ i ∈ Rs, (at_ L i).isSome = true) (j : Int) (hj : W64 j) : ∃ c k a1 n1 c1 a2 n2 c2, (Instr.lookup 73 (.map (some rm)) (.int .i64 j) true).run Try.prog wr = .ok (.tuple #[.agg #[.int .i64 c, .int .i64 k, .slice a1 n1 c1, .slice a2 n2 c2], .bool (decide (j ∈ Rs))]) wr := by
  have h1 := h.mp.look j hj
  by_cases hm : j ∈ Rs
  · obtain ⟨e, he⟩ := Option.isSome_iff_exists.1 (hl j hm)
    obtain ⟨a1, n1, c1, a2, n2, c2, hv⟩ := (H.rows j e he).form
    unfold reachF at h1
    simp only [hm, if_true, he, Option.map_some, Option.getD_some, Option.isSome_some, hv] at h1
    exact ⟨_, _, _, _, _, _, _, _, by rw [h1, decide_eq_true hm]⟩
  · unfold reachF at h1
    simp only [hm, if_false, Option.getD_none, Option.isSome_none] at h1
    exact ⟨0, 0, none, 0, 0, none, 0, 0, by rw [h1, decide_eq_false hm]; rfl⟩
/-- One more is reached. -/
theorem RW.reach (h : RW w wr L rm Rs tv todo) {j : Int} (hj : W64 j) {e : En} (he : at_ L j = some e) (hf : Rs.length ≤ 1000000) :
    ∃ w3, (Instr.mapUpdate 73 (.map (some rm)) (.int .i64 j) e.val).run Try.prog wr = .ok () w3 ∧ RW w w3 L rm (Rs ++ [j]) tv todo ∧ Only (· = rm) wr w3 := by
  obtain ⟨w3, r1, r2, o⟩ := h.mp.store j hj e.val (by omega)
  rw [reachF_add he] at r2
  obtain ⟨es, ck, hm⟩ := h.mp.obj
  exact ⟨w3, r1, ⟨by simpa using r2, h.rml, own_only4 h.row o (fun b hb e => own_not_map4 h.row hb hm e), ⟨o.os.trans h.bel.os, o.tape.trans h.bel.tape, o.output.trans h.bel.output, Nat.le_trans h.bel.size o.size, fun k hk => (o.block k (Nat.lt_of_lt_of_le hk h.bel.size) (fun e => by have := h.rml; omega)).trans (h.bel.block k hk)⟩, h.obs⟩, o⟩
theorem RW.len (h : RW w wr L rm Rs tv todo) (_H : MemR w K m r nv L) (hn : Rs.Nodup) (hw : ∀ i ∈ Rs, W64 i) (hl : ∀ i ∈ Rs, (at_ L i).isSome = true) (ty : TypeId) : (Builtin.len_ #[73] ty #[.map (some rm)]).run Try.prog wr = .ok (.int .i64 Rs.length) wr :=
  h.mp.len Rs hn hw (fun i _ => by
    unfold reachF
    by_cases hi : i ∈ Rs
    · have := hl i hi
      cases hx : at_ L i with
      | none => rw [hx] at this; cases this
      | some e => simp [hi]
    · simp [hi]) ty
/-- One more on the list. -/
theorem RW.push (h : RW w wr L rm Rs tv todo) {y : Li} {o : Obj} {v' : Value} {w4 : World} (hrow : w4.ownsRow w.heap.size 33 4 v' (todo.length + 1) (cellsT todo ++ y.cells)) (hg : (wr.alloc o).grownBy w4 tv.ownBlock) (hy : ObjAt w y.val y.o ∧ y.o.w.length ≤ 1000) :
    RW w w4 L rm Rs v' (todo ++ [y]) := by
  obtain ⟨es, ck, hm⟩ := h.mp.obj
  have o1 : Only (fun g => tv.ownBlock = some g) wr w4 := ⟨hg.os, hg.tape, hg.output, by have := hg.size; simp at this; omega, fun k hk hn => (hg.block k (by simp; omega) (fun e => hn e.symm)).trans (Below.heap_alloc wr o k hk)⟩
  refine ⟨h.mp.only o1 (fun e => own_not_map4 h.row e hm rfl), h.rml, ?_, ⟨o1.os.trans h.bel.os, o1.tape.trans h.bel.tape, o1.output.trans h.bel.output, Nat.le_trans h.bel.size o1.size, fun k hk => (o1.block k (Nat.lt_of_lt_of_le hk h.bel.size) (fun e => by have := (h.row.lt k e).1; omega)).trans (h.bel.block k hk)⟩, fun z hz => ?_⟩
  · unfold ListAt
    rw [cellsT_snoc, List.length_append]
    exact hrow
  · rcases List.mem_append.1 hz with hz | hz
    · exact h.obs z hz
    · rw [List.mem_singleton.1 hz]; exact hy
end
theorem ref_w64 {o : Ob} {k : Nat} (hk : k < (refsO o).length) : W64 ((refsO o).getD k 0) := i64_at (refsL_i64 _) hk
set_option maxHeartbeats 16000000 in
theorem reach_any {w : World} {K : Nat → Prop} {m : Nat} {r : Option Nat} {nv : Value} {L : List (Option En)} (h : MemR w K m r nv L) (rv : Value) (roots : List Int) (hrv : RowI w rv roots) (hrl : roots.length ≤ 1000) :
    Calls Try.prog 57 #[.pointer (some ⟨m, 0, none⟩), rv] w (ReachPost L (refsL roots) w) := by
  obtain ⟨ra, rc, rfl, hrc⟩ := hrv.2.2
  obtain ⟨y0, hy0⟩ : ∃ y0 : Li, y0 = ⟨rootO roots, ra, rc, none, 0⟩ := ⟨_, rfl⟩
  have H0 : Hid (ObjAt w y0.val y0.o ∧ y0.o.w.length ≤ 1000) := by
    subst hy0
    exact Lib.hid ⟨⟨_, _, rfl, hrv, rowB_nil' w, show In64 0 from ⟨by decide, by decide⟩, show In64 0 from ⟨by decide, by decide⟩⟩, hrl⟩
  have HH := Lib.hid h
  have HREF : Hid (∀ wr, Below w.heap.size w wr → ∀ y : Li, ObjAt w y.val y.o → y.o.w.length ≤ 1000 → Calls Try.prog 73 #[y.val] wr fun e w' => ∃ a c, e = .returned (.slice a (refsO y.o).length c) ∧ Hid (w'.ownsRow wr.heap.size 3 1 (.slice a (refsO y.o).length c) (refsO y.o).length ((refsO y.o).map (Value.int .i64))) ∧ Below wr.heap.size wr w') := Lib.hid fun wr hb y ho hl => (refs_any _ y.o wr (ho.kept hb) (by omega)).mono fun e w' ⟨v, he, hr, hb⟩ => by
    obtain ⟨a, c, rfl⟩ := own_form hr
    exact ⟨a, c, he, hr, hb⟩
  obtain ⟨i0, hi0, hz0, hz1, hz2⟩ := info_parts Try.info33
  have hmm := @run_makeMap Try.prog
  have S0 : Hid (RW w ((w.alloc (.map #[] 0)).alloc (.cells #[.int .i64 0, .int .i64 0, .slice ra roots.length rc, .slice none 0 0] 33)) L w.heap.size [] (.slice (some ⟨w.heap.size + 1, 0, none⟩) 1 1) [y0]) := by
    refine Lib.hid ⟨?_, Nat.le_refl _, ?_, (below_new _ _).alloc (by simp) _, fun y hy => by rw [List.mem_singleton.1 hy]; exact H0.out⟩
    · exact ((map_made w).only (only_below (below_new _ _)) id).congr fun i _ => rfl
    · subst hy0
      have := World.ownsRow_lit (base := w.heap.size) (e := 33) (size := 4) (w.alloc (.map #[] 0)) #[.int .i64 0, .int .i64 0, .slice ra roots.length rc, .slice none 0 0] 1 (by simp) (by decide) rfl
      rw [show (w.alloc (.map #[] 0)).heap.size = w.heap.size + 1 by simp] at this
      exact this
  have P0 := Lib.hid (rp_start (mapO En.o L) y0.o)
  have hrt : Hid (refsO y0.o = refsL roots) := by subst hy0; exact Lib.hid (root_refs roots)
  have HCL := Lib.hid (ids_le L)
  have hfew := Lib.hid h.few
  obtain ⟨n, hn⟩ : ∃ n, (ids L).length = n := ⟨_, rfl⟩
  have HNN := Lib.hid hn
  clear h hrv hy0 hn
  go_enter Try.func57, Try.ntmps57
  go_wp2
  go_step3
  go_wp2
  go_step3
  go_wp2
  clear hmm
  go_loopg [6] (2 * n + 1) (fun g s6 wr => ∃ Rs todo, Hid (RW w wr L w.heap.size Rs s6 todo) ∧ Hid (RP (mapO En.o L) y0.o Rs (todo.map Li.o) (fun _ => False)) ∧ (2 * (n - Rs.length) + todo.length ≤ g ∧ todo.length ≤ Rs.length + 1))
  case atStart => exact ⟨[], [y0], S0, P0, by simp, by simp⟩
  case round =>
    obtain ⟨Rs, todo, HW, HP, hg⟩ := hrel
    have HG := Lib.hid hg
    clear hg S0 P0
    rcases List.eq_nil_or_concat todo with rfl | ⟨t, x, rfl⟩
    · have hrow := HW.out.row
      obtain ⟨a, c, rfl⟩ : ∃ a c, u6 = .slice a 0 c := by
        rcases hrow.2 with ⟨rfl, _⟩ | ⟨g, c, _, rfl, _⟩
        · exact ⟨_, _, rfl⟩
        · exact ⟨_, _, rfl⟩
      clear hrow
      go_wp2
      go_ret
      exact ⟨w.heap.size, Rs, rfl, Nat.le_refl _, HW.out.mp, HW.out.bel, fun i => by rw [← hrt.out]; exact HP.out.all i, HP.out.nodup⟩
    · simp only [List.concat_eq_append] at HW HP HG
      obtain ⟨g, c, rfl, hc, hpop, hcells, hgl⟩ := HW.out.row.pop
      obtain ⟨HP1, hsrc⟩ := RP.pop (todo := t.map Li.o) (x := x.o) (by simpa using HP.out)
      obtain ⟨hob, hol⟩ := HW.out.obs x (by simp)
      have HW1 : Hid (RW w wr L w.heap.size Rs (.slice (some ⟨g, 0, none⟩) t.length c) t) := Lib.hid ⟨HW.out.mp, HW.out.rml, hpop, HW.out.bel, fun y hy => HW.out.obs y (by simp [hy])⟩
      have HR := HREF.out wr HW.out.bel x hob hol
      have HP2 := Lib.hid HP1
      have HSR := Lib.hid hsrc
      have HG1 : Hid (2 * (n - Rs.length) + t.length + 1 ≤ gk) := Lib.hid (by have := HG.out.1; simp at this; omega)
      obtain ⟨q, hq⟩ : ∃ q, t.length = q := ⟨_, rfl⟩
      have HQ := Lib.hid hq
      have HT2 : Hid (t.length ≤ Rs.length) := Lib.hid (by have := HG.out.2; simp at this; omega)
      have hqb : q ≤ 1000000000 := by
        have h1 := HP2.out.le
        rw [ids_mapO] at h1
        have := HT2.out
        have := HCL.out
        have := hfew.out
        omega
      obtain ⟨⟨xc, xk, xw, xb⟩, xa1, xc1, xa2, xc2⟩ := x
      have l0 := hcells 0 _ rfl
      have l1 := hcells 1 _ rfl
      have l2 := hcells 2 _ rfl
      have l3 := hcells 3 _ rfl
      simp only [Li.val] at HR
      rw [hq] at l0 l1 l2 l3 hc HW1
      simp only [Nat.add_zero] at l0 l1 l2 l3 HR HSR HP2
      rw [hq]
      obtain ⟨ns, hns⟩ : ∃ ns, refsO ⟨xc, xk, xw, xb⟩ = ns := ⟨_, rfl⟩
      have HNS := Lib.hid hns
      rw [hns] at HR
      have HRR := Lib.hid HR
      have HOL := Lib.hid hol
      have hq1 : IntKind.i64.wrap ((q : Int) + 1 - 1) = q := by rw [IntKind.wrap_i64]; omega
      clear HR hns hcells hpop hsrc HP1 hob hol hq HW HP HG
      go_wp2_with (go_at_call 73; refine HRR.out.mono ?_; rintro e w1 ⟨na, nc, rfl, nrow, nb⟩; have NR := Lib.hid nrow; have NB := Lib.hid nb; clear nrow nb)
      have W1 := Lib.hid (HW1.out.fresh NB.out)
      have NE : Hid (∀ b, (Value.slice (some ⟨g, 0, none⟩) q c).ownBlock = some b → (Value.slice na ns.length nc).ownBlock ≠ some b) := Lib.hid fun b hb e => by
        injection hb with hb
        have := (NR.out.lt b e).1
        simp only at hb
        omega
      obtain ⟨z, hz⟩ : ∃ z, wr.heap.size = z := ⟨_, rfl⟩
      have NRz : Hid (w1.ownsRow z 3 1 (.slice na ns.length nc) ns.length (ns.map (Value.int .i64))) := by rw [← hz]; exact NR
      have NBz : Hid (z ≤ w1.heap.size) := by rw [← hz]; exact Lib.hid NB.out.size
      clear hz NR
      have hnl : ns.length ≤ 1000000 := by
        rw [← HNS.out]
        have h1 := refsL_len (xc :: xw)
        have h2 : (refsO ⟨xc, xk, xw, xb⟩).length = (refsL (xc :: xw)).length := rfl
        have h3 := HOL.out
        simp only [List.length_cons] at h1 h3
        omega
      generalize gk = G0 at *
      have C0 := Lib.hid (CurE.zero (mapO En.o L) ⟨xc, xk, xw, xb⟩ Rs)
      have HQ2 : Hid (t.length = q) := HQ
      go_loopg [6, 35] ns.length (fun g2 s6 s35 wx => ∃ k Rs' todo', s35 = .int .i64 (k : Nat) ∧ k ≤ ns.length ∧ Hid (RW w wx L w.heap.size Rs' s6 todo') ∧ Hid (RP (mapO En.o L) y0.o Rs' (todo'.map Li.o) (· = ⟨xc, xk, xw, xb⟩)) ∧ Hid (SrcE (mapO En.o L) y0.o Rs' ⟨xc, xk, xw, xb⟩) ∧ Hid (CurE (mapO En.o L) ⟨xc, xk, xw, xb⟩ k Rs') ∧ Hid (2 * (n - Rs'.length) + todo'.length + 1 ≤ G0 ∧ todo'.length ≤ Rs'.length) ∧ Hid (wx.ownsRow z 3 1 (.slice na ns.length nc) ns.length (ns.map (Value.int .i64))) ∧ Hid (∀ b, s6.ownBlock = some b → (Value.slice na ns.length nc).ownBlock ≠ some b) ∧ Hid (z ≤ wx.heap.size) ∧ Hid (ns.length - k ≤ g2))
      case atStart => exact ⟨0, Rs, t, rfl, Nat.zero_le _, W1, HP2, HSR, C0, Lib.hid ⟨HG1.out, HT2.out⟩, NRz, NE, NBz, Lib.hid (by omega)⟩
      case round =>
        obtain ⟨k, Rs', todo', rfl, hk, W2, P2, S2, C2, M2, N2, E2, Z2, G2⟩ := hrel
        clear W1 HP2 HSR C0 HG1 HT2 NRz NBz NE HW1 NB HRR
        by_cases hkl : k < ns.length
        · obtain ⟨gb, cb, hax⟩ := own_at N2.out (by omega)
          injection hax with hax1 _ hax2
          subst hax1 hax2
          have rj := (own_cells N2.out).1 k _ (getD_map hkl)
          have hj64 : W64 (ns.getD k 0) := by rw [← HNS.out]; exact ref_w64 (by rw [HNS.out]; exact hkl)
          have hjm : ns.getD k 0 ∈ refsO ⟨xc, xk, xw, xb⟩ := by rw [HNS.out]; simp only [List.getD, List.getElem?_eq_getElem hkl, Option.getD_some]; exact List.getElem_mem _
          have hnx : Hid ((LiveE (mapO En.o L) (ns.getD k 0) → ns.getD k 0 ∈ Rs') → CurE (mapO En.o L) ⟨xc, xk, xw, xb⟩ (k + 1) Rs') := Lib.hid fun hc => C2.out.next (by rw [HNS.out]; exact hkl) (by rw [HNS.out]; exact hc)
          have hnx2 : Hid (∀ Rs'', (CurE (mapO En.o L) ⟨xc, xk, xw, xb⟩ k Rs'') → (LiveE (mapO En.o L) (ns.getD k 0) → ns.getD k 0 ∈ Rs'') → CurE (mapO En.o L) ⟨xc, xk, xw, xb⟩ (k + 1) Rs'') := Lib.hid fun Rs'' h0 hc => h0.next (by rw [HNS.out]; exact hkl) (by rw [HNS.out]; exact hc)
          generalize ns.getD k 0 = j at *
          have hw1 : IntKind.i64.wrap ((k : Int) + 1) = (k : Int) + 1 := by rw [IntKind.wrap_i64]; have := hnl; omega
          have hd : decide ((k : Int) < ns.length) = true := by simpa using hkl
          have hlive : ∀ i ∈ Rs', (at_ L i).isSome = true := fun i hi => by rw [← isSome_map En.o]; exact (P2.out.comes i hi).is
          have M' := HH.out.fresh W2.out.bel
          have q1 := M'.c1
          by_cases hmem : j ∈ Rs'
          · obtain ⟨e1, e2, e3, e4, e5, e6, e7, e8, hv, lk1, lk2⟩ := M'.look j hj64
            obtain ⟨f1, f2, f3, f4, f5, f6, f7, f8, lr⟩ := (W2.out.fresh (below_new wr (.cells #[.int .i64 e1, .int .i64 e2, .slice e3 e4 e5, .slice e6 e7 e8] 33))).look HH.out hlive j hj64
            rw [decide_eq_true hmem] at lr
            have W3 := Lib.hid ((W2.out.fresh (below_new wr (.cells #[.int .i64 e1, .int .i64 e2, .slice e3 e4 e5, .slice e6 e7 e8] 33))).fresh (below_new _ (.cells #[.int .i64 f1, .int .i64 f2, .slice f3 f4 f5, .slice f6 f7 f8] 33)))
            have N3 := Lib.hid (own_kept (own_kept N2.out (below_new wr (.cells #[.int .i64 e1, .int .i64 e2, .slice e3 e4 e5, .slice e6 e7 e8] 33))) (below_new _ (.cells #[.int .i64 f1, .int .i64 f2, .slice f3 f4 f5, .slice f6 f7 f8] 33)))
            have C3 := Lib.hid (hnx.out fun _ => hmem)
            clear hv lk2 M' hlive hmem hjm
            have Z3 : Hid (z ≤ ((wr.alloc (.cells #[.int .i64 e1, .int .i64 e2, .slice e3 e4 e5, .slice e6 e7 e8] 33)).alloc (.cells #[.int .i64 f1, .int .i64 f2, .slice f3 f4 f5, .slice f6 f7 f8] 33)).heap.size) := Lib.hid (by have := Z2.out; simp; omega)
            go_wp2_with fail
            go_roundg (ns.length - (k + 1))
            case measure => have := G2.out; omega
            case rel => exact ⟨k + 1, Rs', todo', by go_num, by omega, W3, P2, S2, C3, M2, N3, E2, Z3, Lib.hid (by omega)⟩
          · cases he : at_ L j with
            | none =>
              obtain ⟨e1, e2, e3, e4, e5, e6, e7, e8, hv, lk1, lk2⟩ := M'.look j hj64
              obtain ⟨f1, f2, f3, f4, f5, f6, f7, f8, lr⟩ := (W2.out.fresh (below_new wr (.cells #[.int .i64 e1, .int .i64 e2, .slice e3 e4 e5, .slice e6 e7 e8] 33))).look HH.out hlive j hj64
              rw [decide_eq_false hmem] at lr
              rw [he] at lk1
              simp only [Option.isSome_none] at lk1
              have W3 := Lib.hid ((W2.out.fresh (below_new wr (.cells #[.int .i64 e1, .int .i64 e2, .slice e3 e4 e5, .slice e6 e7 e8] 33))).fresh (below_new _ (.cells #[.int .i64 f1, .int .i64 f2, .slice f3 f4 f5, .slice f6 f7 f8] 33)))
              have N3 := Lib.hid (own_kept (own_kept N2.out (below_new wr (.cells #[.int .i64 e1, .int .i64 e2, .slice e3 e4 e5, .slice e6 e7 e8] 33))) (below_new _ (.cells #[.int .i64 f1, .int .i64 f2, .slice f3 f4 f5, .slice f6 f7 f8] 33)))
              have C3 := Lib.hid (hnx.out fun hl => by unfold LiveE at hl; rw [isSome_map, he] at hl; cases hl)
              have Z3 : Hid (z ≤ ((wr.alloc (.cells #[.int .i64 e1, .int .i64 e2, .slice e3 e4 e5, .slice e6 e7 e8] 33)).alloc (.cells #[.int .i64 f1, .int .i64 f2, .slice f3 f4 f5, .slice f6 f7 f8] 33)).heap.size) := Lib.hid (by have := Z2.out; simp; omega)
              clear hv lk2 M' hlive hmem hjm he
              go_wp2_with fail
              go_roundg (ns.length - (k + 1))
              case measure => have := G2.out; omega
              case rel => exact ⟨k + 1, Rs', todo', by go_num, by omega, W3, P2, S2, C3, M2, N3, E2, Z3, Lib.hid (by omega)⟩
            | some e =>
              obtain ⟨y, hyo, hyv, hyat, hyl⟩ := (HH.out.rows j e he).li
              obtain ⟨⟨yc, yk, yw, yb⟩, e3, e5, e6, e8⟩ := y
              have HYA := Lib.hid (show ObjAt w (Li.val ⟨⟨yc, yk, yw, yb⟩, e3, e5, e6, e8⟩) ⟨yc, yk, yw, yb⟩ ∧ yw.length ≤ 1000 from ⟨hyat, hyl⟩)
              have lk1 := M'.mp.look j hj64
              simp only [he, Option.map_some, Option.getD_some, Option.isSome_some, ← hyv] at lk1
              obtain ⟨f1, f2, f3, f4, f5, f6, f7, f8, lr⟩ := (W2.out.fresh (below_new wr (.cells #[.int .i64 yc, .int .i64 yk, .slice e3 yw.length e5, .slice e6 yb.length e8] 33))).look HH.out hlive j hj64
              rw [decide_eq_false hmem] at lr
              have W3 := (W2.out.fresh (below_new wr (.cells #[.int .i64 yc, .int .i64 yk, .slice e3 yw.length e5, .slice e6 yb.length e8] 33))).fresh (below_new _ (.cells #[.int .i64 f1, .int .i64 f2, .slice f3 f4 f5, .slice f6 f7 f8] 33))
              have hRl := P2.out.lt (j := j) (by unfold LiveE; rw [isSome_map, he]; rfl) hmem
              rw [ids_mapO] at hRl
              have hid1 := HCL.out
              have hid2 := hfew.out
              obtain ⟨w3, st, W4, O4⟩ := W3.reach hj64 he (by omega)
              rw [← hyv] at st
              simp only [Li.val] at lk1 st
              have BA := ((box_new wr (.int .i64 yc) (.int .i64 yk) (.slice e3 yw.length e5) (.slice e6 yb.length e8)).next (below_new _ (.cells #[.int .i64 f1, .int .i64 f2, .slice f3 f4 f5, .slice f6 f7 f8] 33)))
              have BX := BA.only O4 (box_not_map BA W3.mp)
              have N4 := own_only (own_kept (own_kept N2.out (below_new wr (.cells #[.int .i64 yc, .int .i64 yk, .slice e3 yw.length e5, .slice e6 yb.length e8] 33))) (below_new _ (.cells #[.int .i64 f1, .int .i64 f2, .slice f3 f4 f5, .slice f6 f7 f8] 33))) O4 (fun b hb e => W3.mp.not_own (own_kept (own_kept N2.out (below_new wr (.cells #[.int .i64 yc, .int .i64 yk, .slice e3 yw.length e5, .slice e6 yb.length e8] 33))) (below_new _ (.cells #[.int .i64 f1, .int .i64 f2, .slice f3 f4 f5, .slice f6 f7 f8] 33))) (by rw [hb, e]))
              have hyo' : at_ (mapO En.o L) j = some ⟨yc, yk, yw, yb⟩ := by rw [at_map, he]; exact congrArg some hyo.symm
              have P4 := P2.out.add S2.out hjm hyo' hmem
              have S4 := S2.out.more (j := j)
              have C4 := hnx2.out (Rs' ++ [j]) (C2.out.more) (fun _ => by simp)
              have hlive4 : ∀ i ∈ Rs' ++ [j], (at_ L i).isSome = true := fun i hi => by rw [← isSome_map En.o]; exact (P4.comes i hi).is
              have hw4 : ∀ i ∈ Rs' ++ [j], W64 i := fun i hi => by
                have := ids_rng (P4.sub i hi)
                rw [mapO_len] at this
                exact w64_of (by omega) (by omega)
              have W5 : RW w w3.drew L w.heap.size (Rs' ++ [j]) u6 todo' := W4.fresh (below_drewN w3.heap.size w3 1)
              have M5 := HH.out.fresh W5.bel
              have hl1 := W5.len HH.out P4.nodup hw4 hlive4
              have hl2 := M5.len
              have x1 := M5.c1
              rw [List.length_append, List.length_singleton] at hl1
              rw [HNN.out] at hl2 hRl
              have hNid : (ids (mapO En.o L)).length = n := by rw [ids_mapO]; exact HNN.out
              have hlt3 := M5.lt
              have hZ3 : z ≤ w3.heap.size := by have := Z2.out; have := O4.size; simp at this; omega
              have HW5 := Lib.hid W5
              have HBX := Lib.hid BX
              have HN4 := Lib.hid N4
              have HP4 := Lib.hid P4
              have HS4 := Lib.hid S4
              have HC4 := Lib.hid C4
              have HRl := Lib.hid hRl
              have HNid := Lib.hid hNid
              have HZ4 := Lib.hid hZ3
              clear W3 W4 W5 M5 M' O4 BA BX N4 P4 S4 C4 hyo hyv hyat hyl hyo' hmem hlive hlive4 hw4 hjm he hid1 hid2 hRl hNid hZ3
              by_cases hfull : Rs'.length + 1 = n
              · have hfd : (Rs'.length + 1 == n) = true := by simpa using hfull
                have hfd2 : (((Rs'.length + 1 : Nat) : Int) == (n : Int)) = true := by simp [hfull]
                go_wp2_with fail
                go_region
                all_goals go_simp
                all_goals go_wp2
                all_goals go_ret
                all_goals exact ⟨w.heap.size, Rs' ++ [j], rfl, Nat.le_refl _, HW5.out.mp, HW5.out.bel, fun i => by rw [← hrt.out]; exact HP4.out.full (by rw [HNid.out, List.length_append]; exact hfull) i, HP4.out.nodup⟩
              · have hfd : (Rs'.length + 1 == n) = false := by simpa using hfull
                have hfd2 : (((Rs'.length + 1 : Nat) : Int) == (n : Int)) = false := by simp; omega
                have hbx := HBX.out
                obtain ⟨⟨b0, b1, b2, b3⟩, bf, bl⟩ := hbx
                have hL4 := HW5.out.row
                have hG4 : Hid (2 * (n - (Rs' ++ [j]).length) + (todo'.length + 1) + 1 ≤ G0 ∧ todo'.length + 1 ≤ (Rs' ++ [j]).length) := Lib.hid (by have := M2.out; have := HRl.out; simp; omega)
                have hfull' := Lib.hid hfull
                have htl : todo'.length ≤ 1000001 := by
                  have := M2.out.2
                  have := HRl.out
                  have := HNN.out
                  have := HCL.out
                  have := hfew.out
                  omega
                clear hfull
                go_wp2_with fail
                go_region
                all_goals go_simp
                go_wp2_with (at_builtin; refine wpList_append_own_at _ rfl _ _ 27 rfl w.heap.size 33 i0 zObj 4 64 Try.underlying27 hi0 hz0 hz1 hz2 rfl (by decide) u6 todo'.length (cellsT todo') rfl (World.ownsRow.alloc hL4 _) ⟨w3.heap.size, 0, none⟩ 1 1 [.int .i64 yc, .int .i64 yk, .slice e3 yw.length e5, .slice e6 yb.length e8] rfl rfl ?c1 ?c2 ?c3 ?c4 ?c5 ?_)
                case c1 => exact World.news_of_block (cs := #[.int .i64 yc, .int .i64 yk, .slice e3 yw.length e5, .slice e6 yb.length e8]) (t := 33) (fr := (0, 0)) (heap_alloc_new w3 _)
                case c2 => intro u hu; simp at hu; rcases hu with rfl | rfl | rfl | rfl <;> rfl
                case c3 => unfold maxLen; omega
                case c4 => omega
                case c5 => have := HW5.out.bel.size; simp at this ⊢; omega
                intro v' w4 hown4 hgr4 hnil4 hat4
                have HGR : (w3.drew.alloc (.cells #[.int .i64 yc, .int .i64 yk, .slice e3 yw.length e5, .slice e6 yb.length e8] 33)).grownBy w4 u6.ownBlock := hgr4
                have W6 := Lib.hid (HW5.out.push (y := ⟨⟨yc, yk, yw, yb⟩, e3, e5, e6, e8⟩) hown4 HGR HYA.out)
                have O6 : Only (fun b => u6.ownBlock = some b) w3 w4 := ⟨HGR.os, HGR.tape, HGR.output, by have := HGR.size; simp at this; omega, fun k hk hn => (HGR.block k (by simp; omega) (fun e => hn e.symm)).trans (Below.heap_alloc w3 _ k hk)⟩
                have N6 := Lib.hid (own_only HN4.out O6 (fun b hb e => E2.out b e hb))
                have E6 : Hid (∀ b, v'.ownBlock = some b → (Value.slice (some ⟨gb, 0, none⟩) ns.length nc).ownBlock ≠ some b) := Lib.hid fun b hb e => by
                  rcases hat4 with h | h
                  · rw [h] at hb; exact E2.out b hb e
                  · rw [h] at hb
                    injection hb with hb
                    have := (HN4.out.lt b e).2
                    first | omega | (simp at hb; omega)
                have Z6 : Hid (z ≤ w4.heap.size) := Lib.hid (Nat.le_trans HZ4.out O6.size)
                have P6 : Hid (RP (mapO En.o L) y0.o (Rs' ++ [j]) ((todo' ++ [(⟨⟨yc, yk, yw, yb⟩, e3, e5, e6, e8⟩ : Li)]).map Li.o) (· = ⟨xc, xk, xw, xb⟩)) := by
                  have := HP4.out
                  rw [List.map_append]
                  exact Lib.hid this
                have G6 : Hid (2 * (n - (Rs' ++ [j]).length) + (todo' ++ [(⟨⟨yc, yk, yw, yb⟩, e3, e5, e6, e8⟩ : Li)]).length + 1 ≤ G0 ∧ (todo' ++ [(⟨⟨yc, yk, yw, yb⟩, e3, e5, e6, e8⟩ : Li)]).length ≤ (Rs' ++ [j]).length) := by
                  have := hG4.out
                  have hy : (todo' ++ [(⟨⟨yc, yk, yw, yb⟩, e3, e5, e6, e8⟩ : Li)]).length = todo'.length + 1 := by simp
                  rw [hy]
                  exact Lib.hid this
                clear hown4 hgr4 hnil4 hat4 HGR O6 HN4 HW5 HP4 hG4 hL4
                go_wp2_with fail
                go_roundg (ns.length - (k + 1))
                case measure => have := G2.out; omega
                case rel => exact ⟨k + 1, Rs' ++ [j], todo' ++ [⟨⟨yc, yk, yw, yb⟩, e3, e5, e6, e8⟩], by go_num, by omega, W6, P6, HS4, HC4, G6, N6, E6, Z6, Lib.hid (by omega)⟩
        · obtain rfl : k = ns.length := by omega
          have HPD := Lib.hid (P2.out.done (by rw [HNS.out]; exact C2.out))
          have HGD : Hid (2 * (n - Rs'.length) + todo'.length ≤ G0 - 1 ∧ todo'.length ≤ Rs'.length + 1) := Lib.hid (by have := M2.out; omega)
          have HG0 : Hid (0 < G0) := Lib.hid (by have := M2.out; omega)
          go_wp2_with fail
          go_roundg (G0 - 1)
          case measure => have := HG0.out; omega
          case rel => exact ⟨Rs', todo', W2, HPD, HGD.out⟩
end Go.Proofs.Ytmaeoefimkppoaa.Fl
