/- Texts one behind the other: Xp Xo. -/
import Derived.Test.YtmaeoefimkppoaaMe
import Derived.BigRegion
import Derived.Deep.RegionHeld3
import Derived.Deep.DeepCutAuto
import Derived.Deep.CutRange
import Derived.Deep.LoopGhost
import Derived.WalkMore

/- What Collect of the chapter leaves: plain facts, its end. -/
namespace Go.Proofs.Ytmaeoefimkppoaa.Fl
set_option maxRecDepth 1000000
open Go.ChangeShapes Go.WideShapes Go.ChangeAt Go.RowKit
open Go.Proofs.Ytmaeoefimkppoaa.Wd

theorem idF_q {E : Mem} {o : Int} : ∃ q : Nat, idF E o = q ∧ q ≤ E.length := by
  obtain ⟨h1, h2⟩ := idF_low E o
  exact ⟨(idF E o).toNat, by omega, by omega⟩
theorem memR_ob {L : List RO} {p : Nat} {po : RO} (h : L[p]? = some po) : at_ (memR L) ((p + 1 : Nat) : Int) = if po.1.k = 0 then none else some po.1 := by
  obtain ⟨hi, rfl⟩ := List.getElem?_eq_some_iff.1 h
  exact memR_at L p hi
theorem dbl_ways {E : Mem} {ob : Ob} {x : Int} (hx : x ∈ refsO ob) : (idF E (2 * x) = 0 ∧ ¬ LiveE E x) ∨ (idF E (2 * x) = x ∧ LiveE E x ∧ 1 ≤ x) := by
  have hr := refs_rng (rs := ob.c :: ob.w) hx
  obtain ⟨_, h2⟩ := nam_dbl hr.1 hr.2
  unfold idF
  rw [h2]
  by_cases e : (at_ E x).isSome = true
  · rw [if_pos e]; exact .inr ⟨rfl, e, hr.1⟩
  · rw [if_neg e]; exact .inl ⟨rfl, e⟩
theorem own_ints4 {w : World} {B n : Nat} {a : Option Addr} {c : Nat} {xs : List Int} (h : w.ownsRow B 3 1 (.slice a n c) n (xs.map (Value.int .i64))) (hn : xs.length = n) {j : Nat} (hj : j < n) : ∃ b, a = some ⟨b, 0, none⟩ ∧ B ≤ b ∧ w.cell? ⟨b, j, none⟩ = some (.int .i64 (xs.getD j 0)) := by
  obtain ⟨b, c', he⟩ := own_at h (by omega)
  injection he with e1 e2 e3
  subst e1 e3
  exact ⟨b, rfl, (h.lt b rfl).1, (own_cells h).1 j _ (getD_map (by omega))⟩
/-- The objects that stay, of the first k. -/
def zr : RO := (zeroO, .slice none 0 0, .slice none 0 0)
def keepR (S : Nat → Bool) (j : Nat) (po : RO) : RO := if S (j + 1) = true ∨ po.1.k = 0 then po else zr
def colL (S : Nat → Bool) (L : List RO) (k : Nat) : List RO := (L.take k).mapIdx (keepR S)
theorem colL_len (S : Nat → Bool) (L : List RO) {k : Nat} (hk : k ≤ L.length) : (colL S L k).length = k := by simp [colL]; omega
theorem colL_next (S : Nat → Bool) {L : List RO} {k : Nat} {po : RO} (h : L[k]? = some po) : colL S L (k + 1) = colL S L k ++ [keepR S k po] := by
  obtain ⟨hk, rfl⟩ := List.getElem?_eq_some_iff.1 h
  unfold colL
  rw [List.take_succ_eq_append_getElem hk, List.mapIdx_append]
  simp [List.length_take, Nat.min_eq_left (Nat.le_of_lt hk)]
theorem coll_at {E : Mem} {rs : List Int} {S : Nat → Bool} (hs : Snd E rs S) (hr : RootsTo E rs S rs.length) (hc : ClosedTo E S (E.length + 1)) {k : Nat} (hk : 1 ≤ k) :
    at_ (collF E (refsL rs)) (k : Int) = if S k = true then at_ E (k : Int) else none := by
  unfold collF
  rw [at_mask]
  cases hS : S k with
  | true => rw [if_pos (comesB_iff.2 (hs k hk hS)), if_pos rfl]
  | false =>
    rw [if_neg (show ¬ (false = true) by decide)]
    split
    · rename_i h
      have := marked_all hr hc (comesB_iff.1 h)
      rw [Int.toNat_natCast, hS] at this
      cases this
    · rfl
theorem coll_mem {E : Mem} {L : List RO} {rs : List Int} {S : Nat → Bool} (hE : memR L = E) (hs : Snd E rs S) (hr : RootsTo E rs S rs.length) (hc : ClosedTo E S (E.length + 1)) : memR (colL S L L.length) = collF E (refsL rs) := by
  have hl : (collF E (refsL rs)).length = L.length := by unfold collF; rw [mask_len, ← hE, memR_len]
  refine at_ext (by rw [memR_len, colL_len S L (Nat.le_refl _), hl]) fun i => ?_
  by_cases hi : 1 ≤ i ∧ i ≤ L.length
  · obtain ⟨j, hj⟩ : ∃ j : Nat, i = ((j + 1 : Nat) : Int) := ⟨(i - 1).toNat, by omega⟩
    have hjl : j < L.length := by omega
    have hp : L[j]? = some L[j] := List.getElem?_eq_getElem hjl
    have hq : (colL S L L.length)[j]? = some (keepR S j L[j]) := by
      unfold colL
      rw [List.take_length, List.getElem?_mapIdx, hp]
      rfl
    rw [hj, memR_ob hq, coll_at hs hr hc (by omega), ← hE, memR_ob hp]
    by_cases h1 : S (j + 1) = true
    · have e : keepR S j L[j] = L[j] := if_pos (.inl h1)
      rw [e, if_pos h1]
    · rw [if_neg h1]
      by_cases h2 : L[j].1.k = 0
      · have e : keepR S j L[j] = L[j] := if_pos (.inr h2)
        rw [e, if_pos h2]
      · have e : keepR S j L[j] = zr := if_neg (fun h => h.elim h1 h2)
        rw [e]; rfl
  · rw [at_none (by rw [memR_len, colL_len S L (Nat.le_refl _)]; omega), at_none (by rw [hl]; omega)]
theorem RmV.cells_ro {N : Nat → Prop} {w : World} {v : Value} {L : List RO} (h : RmV N w v L) {i : Nat} {o : Ob} {z u : Value} (hp : L[i]? = some (o, z, u)) :
    ∃ b off c, v = .slice (some ⟨b, off, none⟩) L.length c ∧ N b ∧ RowC w b (off + i * 4) o.c o.k z u ∧ RIn N w (o, z, u) := by
  obtain ⟨hi, he⟩ := List.getElem?_eq_some_iff.1 hp
  obtain ⟨b, off, c, hv, hN, hr⟩ := h.at_ i hi
  rw [he] at hr
  exact ⟨b, off, c, hv, hN, ⟨hr.c0, hr.c1, hr.c2, hr.c3⟩, hr.ob⟩
theorem RnK.only {w w' : World} {B : Nat} {N F : Nat → Prop} {v : Value} {L : List RO} (h : RnK w B N v L) (o : Only F w w') (hN : ∀ b, N b → ¬ F b) (hv : ∀ b, v.ownBlock = some b → ¬ F b) : RnK w' B N v L :=
  ⟨own_only4 h.own o hv, fun p hp => (h.each p hp).only o hN⟩
theorem CS.kept {w : World} {v : Value} {g m : Nat} {S : Nat → Bool} {w1 w2 : World} (h : CS w v g m S w1) (hb : Below (w.heap.size + 4) w1 w2) : CS w v g m S w2 := by
  have hg := h.gq
  have o : Only (fun q => w.heap.size + 4 ≤ q) w1 w2 := ⟨hb.os, hb.tape, hb.output, hb.size, fun q _ hn => hb.block q (by omega)⟩
  exact ⟨h.b0.only o (by omega), h.b1.only o (by omega), h.tb.only o (by omega), ⟨fun j hj => (Only.cell o (p := ⟨g, j, none⟩) h.sn.2.2 (show ¬ w.heap.size + 4 ≤ g by omega)).trans (h.sn.1 j hj), fun j => (Only.frozen o (p := ⟨g, j, none⟩) h.sn.2.2 (show ¬ w.heap.size + 4 ≤ g by omega)).trans (h.sn.2.1 j), Nat.lt_of_lt_of_le h.sn.2.2 o.size⟩, hg, h.bl.trans (hb.mono (by omega)), Nat.le_trans h.sz hb.size⟩
theorem stp_endq {N : Nat → Prop} {w w5 : World} {a' : Option Addr} {l' c' : Nat} {L' : List RO} {E' : Mem} {y : Value} {f : Nat → Value} (n : Int) {o : Ob} (ok : Bool) (t : Int) {z u : Value} (hs : Below w.heap.size w w5) (hb : B1 (w.heap.size + 1) y w5) (ht : Tb (w.heap.size + 1 + 1) f w5)
    (hr : RmV (NN N w) w5 (.slice a' l' c') L') (hm : memR L' = E') (ho : RIn (NN N w) w5 (o, z, u)) :
    B1 (w.heap.size + 1) (.slice a' l' c') (end8 w5 (w.heap.size + 1) (.slice a' l' c') (.int .i64 n) (.int .i64 o.c) (.int .i64 o.k) z u (.bool ok) (.int .i64 t)) ∧
    Tb (w.heap.size + 1 + 1) (tz n o.c o.k z u ok t) (end8 w5 (w.heap.size + 1) (.slice a' l' c') (.int .i64 n) (.int .i64 o.c) (.int .i64 o.k) z u (.bool ok) (.int .i64 t)) ∧
    ∀ e, e = .returned (.tuple #[.agg #[.slice a' l' c'], .agg #[.int .i64 n, .int .i64 o.c, .int .i64 o.k, z, u, .bool ok, .int .i64 t]]) → Stp N E' n o ok t w e (end8 w5 (w.heap.size + 1) (.slice a' l' c') (.int .i64 n) (.int .i64 o.c) (.int .i64 o.k) z u (.bool ok) (.int .i64 t)) := by
  have on : Only (fun g => g = w.heap.size + 1 ∨ g = w.heap.size + 1 + 1) w5 (end8 w5 (w.heap.size + 1) (.slice a' l' c') (.int .i64 n) (.int .i64 o.c) (.int .i64 o.k) z u (.bool ok) (.int .i64 t)) :=
    only7 ((Only.refl _ w5).setCell _ (.inl rfl) _) (.inr rfl) _ _ _ _ _ _ _
  have no : ∀ g, NN N w g → ¬ (g = w.heap.size + 1 ∨ g = w.heap.size + 1 + 1) := fun g hg e => by
    rcases hg with hg | hg
    · have := hg.2; omega
    · omega
  refine ⟨?_, Tb.all (ht.other (by omega) 0 (.slice a' l' c')) n o.c o.k z u ok t, fun e he => ⟨a', l', c', L', z, u, he, (hr.only on no).mono fun g hg => hg.out, hm, (ho.only on no).kind fun g _ hg => hg.out, ?_⟩⟩
  · exact (((((((hb.put (.slice a' l' c')).other (by omega) _ _).other (by omega) _ _).other (by omega) _ _).other (by omega) _ _).other (by omega) _ _).other (by omega) _ _).other (by omega) _ _
  · exact below7 (hs.setCell (p := ⟨w.heap.size + 1, 0, none⟩) (by show w.heap.size ≤ w.heap.size + 1; omega) _) (by omega) _ _ _ _ _ _ _
end Go.Proofs.Ytmaeoefimkppoaa.Fl

/- What Collect of the chapter tells. -/
namespace Go.Proofs.Ytmaeoefimkppoaa.Fl
set_option maxRecDepth 1000000
open Go.ChangeShapes Go.WideShapes Go.ChangeAt Go.RowKit
open Go.Proofs.Ytmaeoefimkppoaa.Wd

set_option maxHeartbeats 8000000 in
theorem coll10_ref {N : Nat → Prop} {w : World} {v : Value} {L : List RO} (h : RmV N w v L) (hl : L.length ≤ 1000000) (rv : Value) (roots : List Int) (hrv : RowI w rv roots) (hrl : roots.length ≤ 1000) :
    Calls Try.prog 46 #[.agg #[v], rv] w (Stp N (collF (memR L) (refsL roots)) (collN (memR L) (refsL roots)) zeroO false 0 w) := by
  obtain ⟨n, hn⟩ : ∃ n, L.length = n := ⟨_, rfl⟩
  obtain ⟨M, hM⟩ : ∃ M, n + 1 = M := ⟨_, rfl⟩
  obtain ⟨rl, hrl2⟩ : ∃ rl, roots.length = rl := ⟨_, rfl⟩
  obtain ⟨a, c, rfl⟩ := h.form
  have HVB := Lib.hid (h.kind (M := fun g => N g ∧ g < w.heap.size) (fun g hg hN => ⟨hN, hg⟩))
  have HV : Hid (∀ w', Below w.heap.size w w' → RmV (fun g => N g ∧ g < w.heap.size) w' (.slice a L.length c) L) := Lib.hid fun w' hb => HVB.out.fresh hb
  have HRV := Lib.hid hrv
  obtain ⟨_, _, ra, rc, rfl, _⟩ := hrv
  have HFd : Hid (∀ w' x, Below w.heap.size w w' → In64 x → Calls Try.prog 41 #[.agg #[.slice a L.length c], .int .i64 x] w' (Fnd (memR L) x w')) := Lib.hid fun w' x hb hx => find10_any (HV.out w' hb) hl x hx
  have C0 := Lib.hid (cs_new w (.slice a L.length c) M)
  have HMk : ∀ w, (Instr.makeSlice 98 (.int .i64 M) (.int .i64 M)).run Try.prog w = .ok (.slice (some ⟨w.heap.size, 0, none⟩) M M) (w.alloc (.cells (madeCells #[Value.bool false] M) 4)) := fun w => mk_bools w M (by omega)
  obtain ⟨yy0, _, _⟩ := cs_b0 w (.slice a L.length c)
  have HEL : Hid ((memR L).length = n) := Lib.hid (by rw [memR_len, hn])
  obtain ⟨E, hE⟩ : ∃ E, memR L = E := ⟨_, rfl⟩
  have HE := Lib.hid hE
  rw [hE] at HEL HFd ⊢
  have HLN := Lib.hid hn
  have HRL := Lib.hid hrl2
  rw [hn] at HFd HV C0 yy0 ⊢
  rw [hrl2] at HRV hrl ⊢
  have hn6 : n ≤ 1000000 := by omega
  unfold csW at C0 yy0
  have hMw : IntKind.i64.wrap ((n : Int) + 1) = (M : Int) := by rw [IntKind.wrap_i64]; omega
  have hMM : Hid (n + 1 = M) := Lib.hid hM
  clear hE hn hl hM h HVB hrl2
  generalize hQ : Stp N (collF E (refsL roots)) (collN E (refsL roots)) zeroO false 0 w = Q
  have HQ := Lib.hid hQ
  clear hQ
  go_enter Try.func46, Try.ntmps46
  go_upto_region 1 with fail
  generalize ((w.alloc (.cells #[.slice a n c] 29)).alloc (.cells #[.slice none 0 0] 29)).alloc (.cells #[.int .i64 0, .int .i64 0, .int .i64 0, .slice none 0 0, .slice none 0 0, .bool false, .int .i64 0] 35) = w1 at *
  go_upto_region 2 with fail
  generalize w1.alloc (.cells (madeCells #[Value.bool false] M) 4) = w2 at *
  generalize w1.heap.size = g at *
  clear HMk yy0 hMw
  go_wp2
  go_loopw [7] (fun s wr => ∃ (i : Nat) (S : Nat → Bool), i ≤ rl ∧ s = .int .i64 i ∧ CS w (.slice a n c) g M S wr ∧ Snd E roots S ∧ RootsTo E roots S i) (fun s _ => rl - (RowKit.intOf s).toNat)
  case atStart => exact ⟨0, _, Nat.zero_le _, rfl, C0.out, fun j _ h => (by cases h), fun q hq => (by omega)⟩
  case round =>
    obtain ⟨i, S, hi, rfl, hc, hsd, hrt⟩ := hrel
    have C := Lib.hid hc
    have SD := Lib.hid hsd
    have RT := Lib.hid hrt
    clear hc hsd hrt C0
    by_cases hlt : i < rl
    · have d1 : decide ((i : Int) < rl) = true := by simpa using hlt
      have d2 : decide (i < rl) = true := by simpa using hlt
      have hw1 : IntKind.i64.wrap ((i : Int) + 1) = (i : Int) + 1 := by rw [IntKind.wrap_i64]; omega
      obtain ⟨rb, roff, rcc, he, hcl⟩ := (HRV.out.1.kept C.out.bl).at_ (k := i) (by rw [HRL.out]; exact hlt)
      injection he with e1 e2 e3
      subst e1 e3
      have hx64 := HRV.out.2.1.at_ i
      obtain ⟨q, hq, hqn⟩ := idF_q (E := E) (o := roots.getD i 0)
      have HF : Hid (∀ w', Below wr.heap.size wr w' → Calls Try.prog 41 #[.agg #[.slice a n c], .int .i64 (roots.getD i 0)] w' fun e w'' => e = .returned (.int .i64 (q : Int)) ∧ Below w'.heap.size w' w'') := Lib.hid fun w' hb => by
        have := HFd.out w' (roots.getD i 0) (C.out.bl.trans (hb.mono C.out.bl.size)) hx64
        unfold Fnd at this
        rw [hq] at this
        exact this
      have hqM : q < M := by have := hMM.out; have := HEL.out; omega
      have SD2 : Hid (Snd E roots (upd S q)) := Lib.hid (SD.out.upd fun h1 => by rw [← hq]; exact root_comes (by rw [HRL.out]; exact hlt) (by omega))
      have RT2 : Hid (RootsTo E roots (upd S q) (i + 1)) := Lib.hid fun p hp hne => by
        by_cases e : p = i
        · subst e; rw [hq, Int.toNat_natCast]; exact upd_same _ _
        · exact upd_mono (RT.out p (by omega) hne)
      have HB2 : Hid (∀ w', Below wr.heap.size wr w' → w'.cell? ⟨w.heap.size, 0, none⟩ = some (.slice a n c) ∧ w'.cell? ⟨rb, roff + i, none⟩ = some (.int .i64 (roots.getD i 0))) := Lib.hid fun w' hb => ⟨(C.out.next hb).b0.1, (hb.cell (p := ⟨rb, roff + i, none⟩) (World.block_lt_of_cell? _ _ hcl)).trans hcl⟩
      have HSt : Hid (∀ w', Below wr.heap.size wr w' → (w'.setCell ⟨g, q, none⟩ (.bool true)).cell? ⟨w.heap.size, 0, none⟩ = some (.slice a n c) ∧ (w'.setCell ⟨g, q, none⟩ (.bool true)).cell? ⟨rb, roff + i, none⟩ = some (.int .i64 (roots.getD i 0))) := Lib.hid fun w' hb => by
        have hrb : rb < w.heap.size := by
          obtain ⟨b', off', c', he', h'⟩ := HRV.out.1.at_ (k := i) (by rw [HRL.out]; exact hlt)
          injection he' with e1 _ _
          injection e1 with e1
          injection e1 with e1 _ _
          subst e1
          exact World.block_lt_of_cell? _ _ h'
        have hg := C.out.gq
        refine ⟨?_, ?_⟩
        · rw [World.cell?_setCell_other _ _ _ _ (by intro hh; injection hh; omega)]; exact (HB2.out w' hb).1
        · rw [World.cell?_setCell_other _ _ _ _ (by intro hh; injection hh; omega)]; exact (HB2.out w' hb).2
      have CN : Hid (∀ w', Below wr.heap.size wr w' → w'.cell? ⟨g, q, none⟩ = some (.bool (S q)) ∧ w'.frozen? ⟨g, q, none⟩ = false) := Lib.hid fun w' hb => ⟨(C.out.next hb).sn.1 q hqM, (C.out.next hb).sn.2.1 q⟩
      obtain ⟨y0, z0⟩ := HB2.out wr (Below.refl _ _)
      have hi0 : (0 : Int) ≤ i := by omega
      have hil : (i : Int) < rl := by omega
      have hqM2 : (q : Int) < M := by omega
      have hq0 : (0 : Int) ≤ q := by omega
      clear hcl hx64 hq hqn e2
      generalize roots.getD i 0 = x at *
      go_wp2
      go_region_held3 (fun w' => w'.cell? ⟨w.heap.size, 0, none⟩ = some (.slice a n c) ∧ w'.cell? ⟨rb, roff + i, none⟩ = some (.int .i64 x)) (first | (exact HB2.out _ KB3.out) | (exact HSt.out _ KB3.out) | go_keep) (first | (go_at_call 41; refine (HF.out _ (below_drewN _ _ _)).mono ?_; rintro e w3 ⟨rfl, hb3⟩; have KB3 : Hid (Below wr.heap.size wr w3) := Lib.hid ((below_drewN _ _ _).trans hb3); obtain ⟨cn1, cn2⟩ := CN.out _ KB3.out))
      all_goals go_wp2
      all_goals exact ⟨⟨i + 1, upd S q, by omega, by go_num, (C.out.next KB3.out).mark hqM, SD2.out, RT2.out⟩, by simp [RowKit.intOf]; omega⟩
    · obtain rfl : rl = i := by omega
      have d1 : decide ((rl : Int) < rl) = false := by simp
      have d2 : decide (rl < rl) = false := by simp
      have RTA : Hid (RootsTo E roots S roots.length) := Lib.hid (by rw [HRL.out]; exact RT.out)
      clear RT HRV HRL hrl hi hlt
      go_wp2
      clear d1 d2
      go_loopg [8] (unseen S n + 1) (fun gh s8 wx => ∃ (S1 : Nat → Bool) (b : Bool), s8 = .bool b ∧ CS w (.slice a n c) g M S1 wx ∧ Snd E roots S1 ∧ RootsTo E roots S1 roots.length ∧ (b = false → ClosedTo E S1 (n + 1)) ∧ (b = true → unseen S1 n + 1 ≤ gh))
      case atStart => exact ⟨S, true, rfl, C.out, SD.out, RTA.out, fun h => (by cases h), fun _ => Nat.le_refl _⟩
      case round =>
        clear C SD RTA
        obtain ⟨S0, b, rfl, hc, hsd, hrt, hcl, hgh⟩ := hrel
        have C := Lib.hid hc
        have SD := Lib.hid hsd
        have RT := Lib.hid hrt
        have HGH := Lib.hid hgh
        have HCL := Lib.hid hcl
        clear hc hsd hrt hgh hcl
        cases b with
        | false =>
          have hc0 := HCL.out rfl
          have HC0 : Hid (ClosedTo E S0 (E.length + 1)) := Lib.hid (by rw [HEL.out]; exact hc0)
          have HAt : Hid (∀ k : Nat, 1 ≤ k → at_ (collF E (refsL roots)) (k : Int) = if S0 k = true then at_ E (k : Int) else none) := Lib.hid fun k hk => coll_at SD.out RT.out HC0.out hk
          have HFin : Hid (memR (colL S0 L n) = collF E (refsL roots)) := Lib.hid (by rw [← HLN.out]; exact coll_mem HE.out SD.out RT.out HC0.out)
          have HCN : Hid (((cntE E n : Nat) : Int) - (cntE (collF E (refsL roots)) n : Nat) = collN E (refsL roots)) := Lib.hid (by
            have h1 := cntE_all E
            have h2 := cntE_all (collF E (refsL roots))
            rw [show (collF E (refsL roots)).length = E.length from mask_len _ _] at h2
            rw [HEL.out] at h1 h2
            rw [h1, h2]
            rfl)
          have HE1 : Hid (∀ k, cntE E (k + 1) = cntE E k + if (at_ E ((k + 1 : Nat) : Int)).isSome = true then 1 else 0) := Lib.hid (cntE_next E)
          have HE2 : Hid (∀ k, cntE (collF E (refsL roots)) (k + 1) = cntE (collF E (refsL roots)) k + if (at_ (collF E (refsL roots)) ((k + 1 : Nat) : Int)).isSome = true then 1 else 0) := Lib.hid (cntE_next _)
          have HE3 : Hid (∀ k, cntE E k ≤ k ∧ cntE (collF E (refsL roots)) k ≤ k) := Lib.hid fun k => ⟨cntE_le E k, cntE_le _ k⟩
          have HE0 : Hid (cntE E 0 = 0 ∧ cntE (collF E (refsL roots)) 0 = 0) := Lib.hid ⟨rfl, rfl⟩
          generalize cntE E = cE at *
          generalize cntE (collF E (refsL roots)) = cF at *
          clear hc0 HCL HGH SD RT HC0 HFd
          go_wp2
          go_loopw [13, 14, 15] (fun s13 s14 s15 wx => ∃ (p : Nat) (d : Int), p ≤ n ∧ s13 = .int .i64 d ∧ d = (cE p : Nat) - (cF p : Nat) ∧ s15 = .int .i64 ((p : Int) + 1) ∧ CS w (.slice a n c) g M S0 wx ∧ RnK wx (w.heap.size + 4) (fun q => N q ∧ q < w.heap.size) s14 (colL S0 L p)) (fun _ _ s15 _ => ((n : Int) + 1 - RowKit.intOf s15).toNat)
          case atStart => exact ⟨0, 0, Nat.zero_le _, rfl, by rw [HE0.out.1, HE0.out.2]; rfl, rfl, C.out, rnk_nil _ _ _⟩
          case round =>
            clear C
            obtain ⟨p, d, hp, rfl, hd, rfl, hc, hrn⟩ := hrel
            have C := Lib.hid hc
            have RN := Lib.hid hrn
            have HD := Lib.hid hd
            clear hc hrn hd
            obtain ⟨y0, _, _⟩ := C.out.b0
            obtain ⟨al, cl, hal⟩ := RN.out.form
            rw [colL_len S0 L (by rw [HLN.out]; exact hp)] at hal
            subst hal
            by_cases hpn : p < n
            · have d1 : decide ((p : Int) + 1 ≤ n) = true := by simp; omega
              obtain ⟨po, hpo⟩ : ∃ po, L[p]? = some po := ⟨_, List.getElem?_eq_getElem (by rw [HLN.out]; exact hpn)⟩
              have HPO := Lib.hid hpo
              have hat := memR_ob hpo
              rw [HE.out] at hat
              have h1 := HE1.out p
              have h2 := HE2.out p
              have h3 := HE3.out p
              have h4 := HAt.out (p + 1) (by omega)
              obtain ⟨ob, pz, pu⟩ := po
              simp only at hat
              obtain ⟨bb, boff, bcc, hv, _, hr, hri⟩ := (HV.out wr C.out.bl).cells_ro hpo
              rw [HLN.out] at hv
              injection hv with f1 f2 f3
              subst f1 f3
              obtain ⟨a1, c1, a2, c2, g1, g2⟩ := hri.form
              simp only at g1 g2
              obtain ⟨n1, hn1⟩ : ∃ n1, ob.w.length = n1 := ⟨_, rfl⟩
              obtain ⟨n2, hn2⟩ : ∃ n2, ob.b.length = n2 := ⟨_, rfl⟩
              rw [hn1] at g1
              rw [hn2] at g2
              subst g1 g2
              obtain ⟨r0, r1, r2, r3⟩ := hr
              obtain ⟨q, hq⟩ : ∃ q, p + 1 = q := ⟨_, rfl⟩
              have hqz : ((p : Int) + 1) = (q : Int) := by omega
              rw [hqz] at d1 ⊢
              rw [hq] at hat h1 h2 h4
              have HQP := Lib.hid hqz
              have hqM : q < M := by have := hMM.out; omega
              have hqM2 : (q : Int) < M := by omega
              have hqn : q ≤ n := by omega
              have d2 : decide (q ≤ n) = true := by simpa using hqn
              have hq1 : IntKind.i64.wrap ((q : Int) - 1) = (p : Int) := by rw [IntKind.wrap_i64]; omega
              have hq2 : IntKind.i64.wrap ((q : Int) + 1) = (q : Int) + 1 := by rw [IntKind.wrap_i64]; omega
              have hpn2 : (p : Int) < n := by omega
              have hdw : IntKind.i64.wrap (d + 1) = d + 1 := by have := HD.out; rw [IntKind.wrap_i64]; omega
              have LO : Hid (∀ b, (Value.slice al p cl).ownBlock = some b → w.heap.size + 4 ≤ b) := Lib.hid fun b hb => (RN.out.own.lt b hb).1
              have LO2 : Hid (∀ b, (Value.slice al p cl).ownBlock = some b → b < wr.heap.size) := Lib.hid fun b hb => (RN.out.own.lt b hb).2
              have HCL : Hid ((colL S0 L p).length = p) := Lib.hid (colL_len S0 L (by rw [HLN.out]; exact hp))
              have C4 := Lib.hid (C.out.next (below_new wr (.cells #[.int .i64 ob.c, .int .i64 ob.k, .slice a1 n1 c1, .slice a2 n2 c2] 33)))
              have RN4 := Lib.hid (RN.out.fresh (below_new wr (.cells #[.int .i64 ob.c, .int .i64 ob.k, .slice a1 n1 c1, .slice a2 n2 c2] 33)))
              have P4 := Lib.hid (hri.fresh (below_new wr (.cells #[.int .i64 ob.c, .int .i64 ob.k, .slice a1 n1 c1, .slice a2 n2 c2] 33)))
              have X4 := Lib.hid (box_new wr (.int .i64 ob.c) (.int .i64 ob.k) (.slice a1 n1 c1) (.slice a2 n2 c2))
              have HSZ := Lib.hid C.out.sz
              have HDS : Hid (S0 q = true ∨ ob.k = 0 → d = (cE q : Nat) - (cF q : Nat)) := Lib.hid fun hh => by
                have hd := HD.out
                rcases hh with e | e
                · rw [h4, if_pos e] at h2
                  generalize (if (at_ E (q : Int)).isSome = true then 1 else 0) = tt at h1 h2
                  omega
                · have hF : at_ (collF E (refsL roots)) (q : Int) = none := by rw [h4, hat, if_pos e]; split <;> rfl
                  rw [if_pos e] at hat
                  rw [hF] at h2
                  rw [hat] at h1
                  simp only [Option.isSome_none, Bool.false_eq_true, if_false] at h1 h2
                  omega
              have HDN : Hid (S0 q = false → ob.k ≠ 0 → d + 1 = (cE q : Nat) - (cF q : Nat)) := Lib.hid fun e1 e2 => by
                have hd := HD.out
                have hF : at_ (collF E (refsL roots)) (q : Int) = none := by rw [h4, e1]; rfl
                rw [if_neg e2] at hat
                rw [hF] at h2
                rw [hat] at h1
                simp only [Option.isSome_none, Option.isSome_some, Bool.false_eq_true, if_false, if_true] at h1 h2
                omega
              have HSQ : Hid (S0 (p + 1) = S0 q) := Lib.hid (by rw [hq])
              clear hpo hat h1 h2 h3 h4 hri hn1 hn2 f2 hq hqz hp hpn
              go_upto_region 27 with fail
              clear r0 r1 r2 r3 y0
              generalize wr.alloc (.cells #[.int .i64 ob.c, .int .i64 ob.k, .slice a1 n1 c1, .slice a2 n2 c2] 33) = w4 at *
              generalize wr.heap.size = px at *
              obtain ⟨⟨x0, x1, x2, x3⟩, xf, _⟩ := X4.out
              have sk := C4.out.sn.1 q hqM
              cases hS : S0 q with
              | true =>
                  rw [hS] at sk
                  have HDD : Hid (d = (cE (p + 1) : Nat) - (cF (p + 1) : Nat)) := Lib.hid (by have := HDS.out (.inl hS); have e := HQP.out; rw [show p + 1 = q by omega]; exact this)
                  obtain ⟨v6, w6, happ6, rn6, hg6, _⟩ := append_row (N := fun q => N q ∧ q < w.heap.size) (B := w.heap.size + 4) (w4.alloc (.cells #[.int .i64 ob.c, .int .i64 ob.k, .slice a1 n1 c1, .slice a2 n2 c2] 33)) (.slice al p cl) (colL S0 L p) (RN4.out.fresh (below_new _ _)) (fun b hb e => by have := hb.2; have := LO.out b e; omega) (ob, .slice a1 n1 c1, .slice a2 n2 c2) (P4.out.fresh (below_new _ _)) w4.heap.size (fun j x hx => by
                    rw [World.cell?_alloc_at _ _ _ _ rfl]
                    have e1 : cells4 (ob, .slice a1 n1 c1, .slice a2 n2 c2) = [.int .i64 ob.c, .int .i64 ob.k, .slice a1 n1 c1, .slice a2 n2 c2] := rfl
                    rw [e1] at hx
                    simpa using hx) (by rw [HCL.out]; omega) (by have := C4.out.sz; simp; omega) 27
                  have C6 : Hid (CS w (.slice (some ⟨bb, boff, none⟩) n c) g M S0 w6) := Lib.hid (C4.out.kept (((below_new w4 _).mono C4.out.sz).trans (grown_below hg6 (fun b e => LO.out b e) (by have := C4.out.sz; simp; omega))))
                  have RN6 : Hid (RnK w6 (w.heap.size + 4) (fun q => N q ∧ q < w.heap.size) v6 (colL S0 L (p + 1))) := Lib.hid (by
                    rw [colL_next S0 HPO.out]
                    have e2 : keepR S0 p (ob, .slice a1 n1 c1, .slice a2 n2 c2) = (ob, .slice a1 n1 c1, .slice a2 n2 c2) := if_pos (.inl (by rw [HSQ.out]; exact hS))
                    rw [e2]
                    exact rn6)
                  obtain ⟨a6, c6, ha6⟩ := rn6.form
                  rw [List.length_append, HCL.out, List.length_singleton] at ha6
                  subst ha6
                  have HAPP := Lib.hid happ6
                  clear happ6 rn6 hg6 hS
                  go_wp2_with (at_builtin; refine wpList_append_eq _ rfl _ _ 27 rfl _ _ _ _ rfl rfl HAPP.out ?_)
                  exact ⟨⟨p + 1, d, by omega, rfl, HDD.out, by have := HQP.out; go_num, C6.out, RN6.out⟩, by have := HQP.out; simp [RowKit.intOf]; omega⟩
              | false =>
                rw [hS] at sk
                by_cases hk : ob.k = 0
                · have HKZ := Lib.hid hk
                  have hkk : (ob.k != 0) = false := by simpa using hk
                  have HDD : Hid (d = (cE (p + 1) : Nat) - (cF (p + 1) : Nat)) := Lib.hid (by have := HDS.out (.inr hk); have e := HQP.out; rw [show p + 1 = q by omega]; exact this)
                  clear hk
                  obtain ⟨v6, w6, happ6, rn6, hg6, _⟩ := append_row (N := fun q => N q ∧ q < w.heap.size) (B := w.heap.size + 4) (w4.alloc (.cells #[.int .i64 ob.c, .int .i64 ob.k, .slice a1 n1 c1, .slice a2 n2 c2] 33)) (.slice al p cl) (colL S0 L p) (RN4.out.fresh (below_new _ _)) (fun b hb e => by have := hb.2; have := LO.out b e; omega) (ob, .slice a1 n1 c1, .slice a2 n2 c2) (P4.out.fresh (below_new _ _)) w4.heap.size (fun j x hx => by
                    rw [World.cell?_alloc_at _ _ _ _ rfl]
                    have e1 : cells4 (ob, .slice a1 n1 c1, .slice a2 n2 c2) = [.int .i64 ob.c, .int .i64 ob.k, .slice a1 n1 c1, .slice a2 n2 c2] := rfl
                    rw [e1] at hx
                    simpa using hx) (by rw [HCL.out]; omega) (by have := C4.out.sz; simp; omega) 27
                  have C6 : Hid (CS w (.slice (some ⟨bb, boff, none⟩) n c) g M S0 w6) := Lib.hid (C4.out.kept (((below_new w4 _).mono C4.out.sz).trans (grown_below hg6 (fun b e => LO.out b e) (by have := C4.out.sz; simp; omega))))
                  have RN6 : Hid (RnK w6 (w.heap.size + 4) (fun q => N q ∧ q < w.heap.size) v6 (colL S0 L (p + 1))) := Lib.hid (by
                    rw [colL_next S0 HPO.out]
                    have e2 : keepR S0 p (ob, .slice a1 n1 c1, .slice a2 n2 c2) = (ob, .slice a1 n1 c1, .slice a2 n2 c2) := if_pos (.inr HKZ.out)
                    rw [e2]
                    exact rn6)
                  obtain ⟨a6, c6, ha6⟩ := rn6.form
                  rw [List.length_append, HCL.out, List.length_singleton] at ha6
                  subst ha6
                  have HAPP := Lib.hid happ6
                  clear happ6 rn6 hg6 hS
                  go_wp2_with (at_builtin; refine wpList_append_eq _ rfl _ _ 27 rfl _ _ _ _ rfl rfl HAPP.out ?_)
                  exact ⟨⟨p + 1, d, by omega, rfl, HDD.out, by have := HQP.out; go_num, C6.out, RN6.out⟩, by have := HQP.out; simp [RowKit.intOf]; omega⟩
                · have HKZ := Lib.hid hk
                  have hkk : (ob.k != 0) = true := by simpa using hk
                  have HDD : Hid (d + 1 = (cE (p + 1) : Nat) - (cF (p + 1) : Nat)) := Lib.hid (by have := HDN.out hS hk; have e := HQP.out; rw [show p + 1 = q by omega]; exact this)
                  have HSF : Hid (¬ (S0 (p + 1) = true ∨ ob.k = 0)) := Lib.hid (fun e => e.elim (fun e => by rw [HSQ.out, hS] at e; cases e) hk)
                  have xf0 := xf 0
                  have xf1 := xf 1
                  have xf2 := xf 2
                  have xf3 := xf 3
                  clear hk hS xf
                  have o5 : Only (· = px) w4 ((((w4.setCell ⟨px, 0, none⟩ (.int .i64 0)).setCell ⟨px, 1, none⟩ (.int .i64 0)).setCell ⟨px, 2, none⟩ (.slice none 0 0)).setCell ⟨px, 3, none⟩ (.slice none 0 0)) := ((((Only.refl (· = px) w4).setCell ⟨px, 0, none⟩ rfl _).setCell ⟨px, 1, none⟩ rfl _).setCell ⟨px, 2, none⟩ rfl _).setCell ⟨px, 3, none⟩ rfl _
                  have hpx := HSZ.out
                  have X5 := Lib.hid (X4.out.put (.int .i64 0) (.int .i64 0) (.slice none 0 0) (.slice none 0 0))
                  have C5 := Lib.hid (C4.out.kept (Only.below (B := w.heap.size + 4) o5 (fun i hi e => by omega) C4.out.sz))
                  have RN5 := Lib.hid (RN4.out.only o5 (fun b hb e => by have := hb.2; omega) (fun b hb e => by have := LO2.out b hb; omega))
                  clear o5
                  go_upto_region 30 with fail
                  clear x0 x1 x2 x3 xf0 xf1 xf2 xf3 sk
                  generalize (((w4.setCell ⟨px, 0, none⟩ (.int .i64 0)).setCell ⟨px, 1, none⟩ (.int .i64 0)).setCell ⟨px, 2, none⟩ (.slice none 0 0)).setCell ⟨px, 3, none⟩ (.slice none 0 0) = w5 at *
                  obtain ⟨⟨x0, x1, x2, x3⟩, _, _⟩ := X5.out
                  obtain ⟨v6, w6, happ6, rn6, hg6, _⟩ := append_row (N := fun q => N q ∧ q < w.heap.size) (B := w.heap.size + 4) (w5.alloc (.cells #[.int .i64 zeroO.c, .int .i64 zeroO.k, .slice none 0 0, .slice none 0 0] 33)) (.slice al p cl) (colL S0 L p) (RN5.out.fresh (below_new _ _)) (fun b hb e => by have := hb.2; have := LO.out b e; omega) (zeroO, .slice none 0 0, .slice none 0 0) ((zero_in (fun q => N q ∧ q < w.heap.size) w5).fresh (below_new _ _)) w5.heap.size (fun j x hx => by
                    rw [World.cell?_alloc_at _ _ _ _ rfl]
                    have e1 : cells4 (zeroO, .slice none 0 0, .slice none 0 0) = [.int .i64 zeroO.c, .int .i64 zeroO.k, .slice none 0 0, .slice none 0 0] := rfl
                    rw [e1] at hx
                    simpa using hx) (by rw [HCL.out]; omega) (by have := C5.out.sz; simp; omega) 27
                  have C6 : Hid (CS w (.slice (some ⟨bb, boff, none⟩) n c) g M S0 w6) := Lib.hid (C5.out.kept (((below_new w5 _).mono C5.out.sz).trans (grown_below hg6 (fun b e => LO.out b e) (by have := C5.out.sz; simp; omega))))
                  have RN6 : Hid (RnK w6 (w.heap.size + 4) (fun q => N q ∧ q < w.heap.size) v6 (colL S0 L (p + 1))) := Lib.hid (by
                    rw [colL_next S0 HPO.out]
                    have e2 : keepR S0 p (ob, .slice a1 n1 c1, .slice a2 n2 c2) = (zeroO, .slice none 0 0, .slice none 0 0) := if_neg HSF.out
                    rw [e2]
                    exact rn6)
                  obtain ⟨a6, c6, ha6⟩ := rn6.form
                  rw [List.length_append, HCL.out, List.length_singleton] at ha6
                  subst ha6
                  have HAPP := Lib.hid happ6
                  clear happ6 rn6 hg6
                  go_wp2_with (at_builtin; refine wpList_append_eq _ rfl _ _ 27 rfl _ _ _ _ rfl rfl HAPP.out ?_)
                  exact ⟨⟨p + 1, d + 1, by omega, rfl, HDD.out, by have := HQP.out; go_num, C6.out, RN6.out⟩, by have := HQP.out; simp [RowKit.intOf]; omega⟩
            · obtain rfl : p = n := by omega
              have d1 : decide ((p : Int) + 1 ≤ p) = false := by simp; omega
              have hE := stp_endq (N := N) (o := zeroO) (f := t0) d false 0 C.out.bl C.out.b1 C.out.tb ((RN.out.rm).mono fun q hq => hq) HFin.out (zero_in _ _)
              rw [HD.out, HCN.out] at hE
              have E9 := Lib.hid hE
              have hdc : d = collN E (refsL roots) := HD.out.trans HCN.out
              obtain ⟨t1, t2, _⟩ := C.out.b1
              obtain ⟨q0, q1, q2, q3, q4, q5, q6, qf⟩ := C.out.tb.cz
              have HQ2 := HQ.out
              clear hE
              subst hdc
              go_wp2
              rw [← HQ2]
              exact bodyPost_ret (res_mt rfl rfl rfl E9.out.1 E9.out.2.1) rfl (E9.out.2.2 _ rfl)
        | true =>
          have HGH2 := Lib.hid (HGH.out rfl)
          clear HGH HCL
          go_wp2
          go_loopw [8, 9] (fun s8 s9 wx => ∃ (k : Nat) (S1 : Nat → Bool) (b : Bool), 1 ≤ k ∧ k ≤ n + 1 ∧ s8 = .bool b ∧ s9 = .int .i64 k ∧ CS w (.slice a n c) g M S1 wx ∧ Snd E roots S1 ∧ RootsTo E roots S1 roots.length ∧ (b = false → S1 = S0 ∧ ClosedTo E S0 k) ∧ (b = true → unseen S1 n < unseen S0 n) ∧ Hid (∀ j, S0 j = true → S1 j = true)) (fun _ s9 _ => n + 1 - (RowKit.intOf s9).toNat)
          case atStart => exact ⟨1, S0, false, Nat.le_refl _, by omega, rfl, rfl, C.out, SD.out, RT.out, fun _ => ⟨rfl, fun q h1 h2 => by omega⟩, fun h => (by cases h), Lib.hid fun _ h => h⟩
          case round =>
            clear C SD RT
            obtain ⟨k, S1, b, hk1, hk2, rfl, rfl, hc, hsd, hrt, hb0, hb1, HMono⟩ := hrel
            have C := Lib.hid hc
            have SD := Lib.hid hsd
            have RT := Lib.hid hrt
            have HB0 := Lib.hid hb0
            have HB1 := Lib.hid hb1
            clear hc hsd hrt hb0 hb1
            obtain ⟨y0, _, _⟩ := C.out.b0
            by_cases hkn : k ≤ n
            · have d1 : decide ((k : Int) ≤ n) = true := by simpa using hkn
              have d2 : decide (k ≤ n) = true := by simpa using hkn
              have hkw : IntKind.i64.wrap ((k : Int) + 1) = (k : Int) + 1 := by rw [IntKind.wrap_i64]; omega
              obtain ⟨p, hp⟩ : ∃ p, k = p + 1 := ⟨k - 1, by omega⟩
              have hpl : p < L.length := by rw [HLN.out]; omega
              have hk1w : IntKind.i64.wrap ((k : Int) - 1) = (p : Int) := by rw [IntKind.wrap_i64]; omega
              have hpn : (p : Int) < n := by omega
              have hkM : k < M := by have := hMM.out; omega
              have hkM2 : (k : Int) < M := by omega
              have sk := C.out.sn.1 k hkM
              cases hS : S1 k with
              | false =>
                rw [hS] at sk
                have HN : Hid (b = false → S1 = S0 ∧ ClosedTo E S0 (k + 1)) := Lib.hid fun hb => by
                  obtain ⟨h1, h2⟩ := HB0.out hb
                  refine ⟨h1, fun q q1 q2 qS => ?_⟩
                  by_cases e : q = k
                  · subst e; rw [← h1, hS] at qS; cases qS
                  · exact h2 q q1 (by omega) qS
                clear hS hp hpl hk1w hpn
                go_wp2
                exact ⟨⟨k + 1, S1, b, by omega, by omega, rfl, by go_num, C.out, SD.out, RT.out, HN.out, HB1.out, HMono⟩, by simp [RowKit.intOf]; omega⟩
              | true =>
                rw [hS] at sk
                have hcm := SD.out k hk1 hS
                obtain ⟨po, hpo⟩ : ∃ po, L[p]? = some po := ⟨_, List.getElem?_eq_getElem hpl⟩
                have hat := memR_ob hpo
                rw [HE.out, ← hp] at hat
                have hlive := hcm.is
                rw [hat] at hlive
                have hk0 : po.1.k ≠ 0 := by
                  intro e
                  rw [if_pos e] at hlive
                  cases hlive
                rw [if_neg hk0] at hat
                obtain ⟨ob, pz, pu⟩ := po
                simp only at hat hk0
                have HAT := Lib.hid hat
                have HCM := Lib.hid hcm
                have hkk : (ob.k == 0) = false := by simpa using hk0
                have hkk2 : (ob.k != 0) = true := by simpa using hk0
                obtain ⟨bb, boff, bcc, a1, n1, c1, a2, n2, c2, hv, _, hr, ho2⟩ := (HV.out wr C.out.bl).cells_ob hpo
                simp only at hr ho2
                rw [HLN.out] at hv
                injection hv with f1 f2 f3
                subst f1 f3
                obtain ⟨r0, r1, r2, r3⟩ := hr
                have hsh := okZ_short ((HV.out wr C.out.bl).ob hpo).ok
                have HRf := Lib.hid (refrefs_any _ _ wr ho2 (by have := hsh.1; simp only at this; omega))
                obtain ⟨xs, hxs⟩ : ∃ xs, refsO ob = xs := ⟨_, rfl⟩
                have HXS := Lib.hid hxs
                rw [hxs] at HRf
                obtain ⟨xn, hxn⟩ : ∃ xn, xs.length = xn := ⟨_, rfl⟩
                have HXN := Lib.hid hxn
                unfold GaveI at HRf
                rw [hxn] at HRf
                have HSZ := Lib.hid C.out.sz
                have hxn6 : xn ≤ 1001 := by
                  have q1 := refsL_len (ob.c :: ob.w)
                  have q2 := hsh.1
                  simp only [List.length_cons] at q1 q2
                  rw [← hxn, ← hxs]
                  show (refsL (ob.c :: ob.w)).length ≤ 1001
                  omega
                clear hS hp hpl hat hk0 hcm hlive hpo hsh ho2 hxs hxn f2
                go_upto_region 14 with (go_at_call 38; refine HRf.out.mono ?_; rintro e w4 ⟨v4, rfl, own4, hb4⟩)
                obtain ⟨ax, cx, rfl⟩ := own_form own4
                have C4 := Lib.hid (C.out.next hb4)
                have OW : Hid (w4.ownsRow (w.heap.size + 4) 3 1 (.slice ax xn cx) xn (xs.map (Value.int .i64))) := Lib.hid (own_down own4 HSZ.out)
                clear HRf C hb4 own4 r0 r1 r2 r3 sk y0 d1 d2 hpn hk1w hkk hkk2
                go_wp2
                go_loopw [8, 11] (fun s8 s11 wx => ∃ (j : Nat) (S2 : Nat → Bool) (b2 : Bool), j ≤ xn ∧ s8 = .bool b2 ∧ s11 = .int .i64 j ∧ CS w (.slice (some ⟨bb, boff, none⟩) n c) g M S2 wx ∧ Snd E roots S2 ∧ RootsTo E roots S2 roots.length ∧ (b2 = false → S2 = S0 ∧ ClosedTo E S0 k ∧ ∀ i, i < j → LiveE E (xs.getD i 0) → S0 (xs.getD i 0).toNat = true) ∧ (b2 = true → unseen S2 n < unseen S0 n) ∧ Hid (∀ j, S0 j = true → S2 j = true) ∧ Hid (wx.ownsRow (w.heap.size + 4) 3 1 (.slice ax xn cx) xn (xs.map (Value.int .i64)))) (fun _ s11 _ => xn - (RowKit.intOf s11).toNat)
                case atStart => exact ⟨0, S1, b, Nat.zero_le _, rfl, rfl, C4.out, SD.out, RT.out, fun h => ⟨(HB0.out h).1, (HB0.out h).2, fun i hi => (by omega)⟩, HB1.out, HMono, OW⟩
                case round =>
                  clear C4 OW SD RT HB0 HB1 HMono
                  obtain ⟨j, S2, b2, hj, rfl, rfl, hc, hsd, hrt, hb0, hb1, HMono, OW⟩ := hrel
                  have C := Lib.hid hc
                  have SD := Lib.hid hsd
                  have RT := Lib.hid hrt
                  have HB0 := Lib.hid hb0
                  have HB1 := Lib.hid hb1
                  clear hc hsd hrt hb0 hb1
                  obtain ⟨y0, _, _⟩ := C.out.b0
                  by_cases hlt : j < xn
                  · have d1 : decide ((j : Int) < xn) = true := by simpa using hlt
                    have d2 : decide (j < xn) = true := by simpa using hlt
                    have hjw : IntKind.i64.wrap ((j : Int) + 1) = (j : Int) + 1 := by rw [IntKind.wrap_i64]; omega
                    obtain ⟨xb, rfl, hxB, hxc⟩ := own_ints4 OW.out HXN.out hlt
                    have hxm : xs.getD j 0 ∈ refsO ob := by
                      rw [HXS.out]
                      simp only [List.getD, List.getElem?_eq_getElem (show j < xs.length by rw [HXN.out]; exact hlt), Option.getD_some]
                      exact List.getElem_mem _
                    have HW := Lib.hid (dbl_ways (E := E) hxm)
                    have hrg := refs_rng (rs := ob.c :: ob.w) hxm
                    have HXM := Lib.hid hxm
                    obtain ⟨x, hx⟩ : ∃ x, xs.getD j 0 = x := ⟨_, rfl⟩
                    have HXJ := Lib.hid hx
                    rw [hx] at hxc HW hrg HXM
                    clear hx hxm
                    obtain ⟨q, hq, hqn⟩ := idF_q (E := E) (o := 2 * x)
                    have HF : Hid (∀ w', Below wr.heap.size wr w' → Calls Try.prog 41 #[.agg #[.slice (some ⟨bb, boff, none⟩) n c], .int .i64 (2 * x)] w' fun e w'' => e = .returned (.int .i64 (q : Int)) ∧ Below w'.heap.size w' w'') := Lib.hid fun w' hb => by
                      have := HFd.out w' (2 * x) (C.out.bl.trans (hb.mono C.out.bl.size)) ⟨by omega, by omega⟩
                      unfold Fnd at this
                      rw [hq] at this
                      exact this
                    have HQX := Lib.hid hq
                    have hqM : q < M := by have := hMM.out; have := HEL.out; omega
                    have HB2 : Hid (∀ w', Below wr.heap.size wr w' → w'.cell? ⟨w.heap.size, 0, none⟩ = some (.slice (some ⟨bb, boff, none⟩) n c) ∧ w'.cell? ⟨xb, j, none⟩ = some (.int .i64 x)) := Lib.hid fun w' hb => ⟨(C.out.next hb).b0.1, (hb.cell (p := ⟨xb, j, none⟩) (World.block_lt_of_cell? _ _ hxc)).trans hxc⟩
                    have CN : Hid (∀ w', Below wr.heap.size wr w' → w'.cell? ⟨g, q, none⟩ = some (.bool (S2 q)) ∧ w'.frozen? ⟨g, q, none⟩ = false) := Lib.hid fun w' hb => ⟨(C.out.next hb).sn.1 q hqM, (C.out.next hb).sn.2.1 q⟩
                    have hw2 : IntKind.i64.wrap (2 * x) = 2 * x := by rw [IntKind.wrap_i64]; omega
                    have hi0 : (0 : Int) ≤ j := by omega
                    have hil : (j : Int) < xn := by omega
                    have hqM2 : (q : Int) < M := by omega
                    have hq0 : (0 : Int) ≤ q := by omega
                    have HQN := Lib.hid hqn
                    clear y0 hxc hrg hq hqn
                    obtain ⟨y0, z0⟩ := HB2.out wr (Below.refl _ _)
                    go_wp2
                    go_cut [12] from 72 to 78 (fun s12 wx => s12 = .int .i64 (q : Int) ∧ Hid (Below wr.heap.size wr wx))
                    case first =>
                      go_region_held3 (fun w' => w'.cell? ⟨w.heap.size, 0, none⟩ = some (.slice (some ⟨bb, boff, none⟩) n c) ∧ w'.cell? ⟨xb, j, none⟩ = some (.int .i64 x)) (first | (exact HB2.out _ KB3.out) | go_keep) (first | (go_at_call 41; refine (HF.out _ (below_drewN _ _ _)).mono ?_; rintro e w3 ⟨rfl, hb3⟩; have KB3 : Hid (Below wr.heap.size wr w3) := Lib.hid ((below_drewN _ _ _).trans hb3)))
                      all_goals go_wp2
                      all_goals go_meet
                      all_goals exact ⟨rfl, KB3⟩
                    case rest =>
                    obtain ⟨rfl, KB⟩ := hcut
                    have C5 := Lib.hid (C.out.next KB.out)
                    have OW5 := Lib.hid (own_kept OW.out KB.out)
                    obtain ⟨sq, sqf⟩ := CN.out _ KB.out
                    clear y0 z0 HB2 CN C OW HF
                    rcases HW.out with ⟨hz, hnl⟩ | ⟨hz, hlv, hx1⟩
                    · have hq0' : q = 0 := by have := HQX.out; omega
                      subst hq0'
                      have HN : Hid (b2 = false → S2 = S0 ∧ ClosedTo E S0 k ∧ ∀ i, i < j + 1 → LiveE E (xs.getD i 0) → S0 (xs.getD i 0).toNat = true) := Lib.hid fun hb => by
                        obtain ⟨h1, h2, h3⟩ := HB0.out hb
                        refine ⟨h1, h2, fun i hi hl => ?_⟩
                        by_cases e : i = j
                        · subst e; rw [HXJ.out] at hl; exact absurd hl hnl
                        · exact h3 i (by omega) hl
                      clear hz hnl hqM hqM2
                      go_wp2
                      exact ⟨⟨j + 1, S2, b2, by omega, rfl, by go_num, C5.out, SD.out, RT.out, HN.out, HB1.out, HMono, OW5⟩, by simp [RowKit.intOf]; omega⟩
                    · have hqx : (q : Int) = x := by rw [← HQX.out]; exact hz
                      have hqp : decide ((0 : Int) < q) = true := by simp; omega
                      have hqp2 : decide (0 < q) = true := by simp; omega
                      cases hS2 : S2 q with
                      | true =>
                        rw [hS2] at sq
                        have HN : Hid (b2 = false → S2 = S0 ∧ ClosedTo E S0 k ∧ ∀ i, i < j + 1 → LiveE E (xs.getD i 0) → S0 (xs.getD i 0).toNat = true) := Lib.hid fun hb => by
                          obtain ⟨h1, h2, h3⟩ := HB0.out hb
                          refine ⟨h1, h2, fun i hi hl => ?_⟩
                          by_cases e : i = j
                          · subst e; rw [HXJ.out, ← hqx, Int.toNat_natCast, ← h1]; exact hS2
                          · exact h3 i (by omega) hl
                        clear hz hlv hx1 hqx hS2
                        go_wp2
                        exact ⟨⟨j + 1, S2, b2, by omega, rfl, by go_num, C5.out, SD.out, RT.out, HN.out, HB1.out, HMono, OW5⟩, by simp [RowKit.intOf]; omega⟩
                      | false =>
                        rw [hS2] at sq
                        have SD5 : Hid (Snd E roots (upd S2 q)) := Lib.hid (SD.out.upd fun _ => by rw [hqx]; exact .step HCM.out HAT.out HXM.out hlv)
                        have RT5 : Hid (RootsTo E roots (upd S2 q) roots.length) := Lib.hid fun i hi hne => upd_mono (RT.out i hi hne)
                        have HU : Hid (true = true → unseen (upd S2 q) n < unseen S0 n) := Lib.hid fun _ => by
                          have h1 := unseen_upd (S := S2) (j := q) (by omega) hS2 n (by have := HQN.out; have := HEL.out; omega)
                          cases b2 with
                          | false => rw [← (HB0.out rfl).1]; exact h1
                          | true => have := HB1.out rfl; omega
                        have HM5 : Hid (∀ i, S0 i = true → upd S2 q i = true) := Lib.hid fun i hi => upd_mono (HMono.out i hi)
                        have C6 := Lib.hid (C5.out.mark hqM)
                        have OW6 := Lib.hid (own_set (q := g) (j := q) (u := .bool true) OW5.out (by have := C5.out.gq; omega))
                        clear hz hlv hx1 hqx hS2
                        go_wp2
                        exact ⟨⟨j + 1, upd S2 q, true, by omega, rfl, by go_num, C6.out, SD5.out, RT5.out, fun h => (by cases h), HU.out, HM5, OW6⟩, by simp [RowKit.intOf]; omega⟩
                  · obtain rfl : xn = j := by omega
                    have d1 : decide ((xn : Int) < xn) = false := by simp
                    have d2 : decide (xn < xn) = false := by simp
                    have HN : Hid (b2 = false → S2 = S0 ∧ ClosedTo E S0 (k + 1)) := Lib.hid fun hb => by
                      obtain ⟨h1, h2, h3⟩ := HB0.out hb
                      refine ⟨h1, fun q q1 q2 qS y hy r hr hl => ?_⟩
                      by_cases e : q = k
                      · subst e
                        rw [HAT.out] at hy
                        injection hy with hy
                        subst hy
                        rw [HXS.out] at hr
                        obtain ⟨i, hi, rfl⟩ := List.mem_iff_getElem.1 hr
                        have := h3 i (by rw [← HXN.out]; exact hi)
                        simp only [List.getD, List.getElem?_eq_getElem hi, Option.getD_some] at this
                        exact this hl
                      · exact h2 q q1 (by omega) qS y hy r hr hl
                    go_wp2
                    exact ⟨⟨k + 1, S2, b2, by omega, by omega, rfl, by go_num, C.out, SD.out, RT.out, HN.out, HB1.out, HMono⟩, by simp [RowKit.intOf]; omega⟩
            · obtain rfl : k = n + 1 := by omega
              have d1 : decide (((n + 1 : Nat) : Int) ≤ n) = false := by simp; omega
              have d3 : decide ((n : Int) + 1 ≤ n) = false := by simp; omega
              have d2 : decide (n + 1 ≤ n) = false := by simp
              go_wp2
              go_roundg (unseen S0 n)
              case measure => have := HGH2.out; omega
              case rel => exact ⟨S1, b, rfl, C.out, SD.out, RT.out, fun h => by rw [(HB0.out h).1]; exact (HB0.out h).2, fun h => by have := HB1.out h; omega⟩
end Go.Proofs.Ytmaeoefimkppoaa.Fl
