/- What the function Compact of package heap does. No condition but those that each statement names. -/
import Derived.Test.YtgfjfpfhalblgaaHPd
import Derived.Test.YtgfjfpfhalblgaaHWr
namespace Go.Proofs.Ytgfjfpfhalblgaa
set_option maxRecDepth 1000000
open Go.ChangeShapes Go.WideShapes Go.ChangeAt Go.RowKit

theorem compact_nil (w : World) : Calls Try.prog 19 #[.pointer none] w (Told (.int .i64 0) w) := by
  go_enter Try.func19, Try.ntmps19
  go_wp2
  go_ret
  exact ⟨rfl, Below.refl _ _⟩
theorem CompIs.next {n : Nat} {B B' : List (Option Bk)} {m : Nat} {S : List Nat} (h : CompIs n B B' m S) : nextB B' = nextB B := by
  have key : ∀ k, look B' k = none ↔ look B k = none := fun k => by
    rcases Nat.eq_zero_or_pos (lenB B k) with hk | hk
    · rw [h.old k hk]
    · obtain ⟨j, hj, rfl⟩ := h.plc.idx hk
      obtain ⟨b, g1, _⟩ := len_some hk
      rw [h.put j b hj g1, g1]; simp
  refine next_is (by rw [h.len]; exact next_le B) (fun i hi => ?_) (fun hl => (key _).2 (next_none B))
  exact fun hb => next_some hi ((key i).1 hb)
/-- What Compact leaves. -/
def CompPost (c : Hp) (v : Value) (n : Nat) (B : List (Option Bk)) (w : World) (e : Ending) (w' : World) : Prop :=
  ∃ m B' S, e = .returned (.int .i64 (m : Nat)) ∧ CompIs n B B' m S ∧ HeapAt w' c v n B' ∧ Only (HF c v) w w'
section
variable {w w' : World} {c : Hp} {v : Value} {n nx : Nat} {B : List (Option Bk)} {V V' : Nat → Int}
/-- A block of the row has another place. -/
theorem HeapM.row_at {g cap k a : Nat} {ws : List Int} {b : Bk} (h : HeapM w c (.slice (some ⟨g, 0, none⟩) B.length cap) n B nx V) (hb : look B k = some b) (hl : b.ws.length = ws.length) :
    HeapM (w.setCell ⟨g, k * 2, none⟩ (.int .i64 a)) c (.slice (some ⟨g, 0, none⟩) B.length cap) n (B.set k (some ⟨a, ws⟩)) nx V := by
  have hk := look_lt hb
  have hg := h.own.lt g rfl
  have hord := h.ord
  have on : Only (· = g) w (w.setCell ⟨g, k * 2, none⟩ (.int .i64 a)) := (Only.refl (· = g) w).setCell ⟨g, k * 2, none⟩ (.inl rfl) _
  have h1 := (h.own.stored (k * 2) (.int .i64 a)).1
  have e : (cellsB B).set (k * 2) (.int .i64 a) = cellsB (B.set k (some ⟨a, ws⟩)) := by
    rw [cellsB_set hk]
    have e1 : spA (some ⟨a, ws⟩) = (a : Int) := rfl
    have e2 : spL (some ⟨a, ws⟩) = spL (look B k) := by rw [hb]; simp only [spL, hl]
    rw [e1, e2]
    refine (set_same ?_).symm
    rw [List.getElem?_set_ne (by omega)]
    exact (cellsB_get hk).2
  rw [e] at h1
  have hlt := h.lt
  exact ⟨(on.cell (p := ⟨c.h, 0, none⟩) hlt (by show ¬ c.h = g; omega)).trans h.c0, (on.cell (p := ⟨c.h, 1, none⟩) hlt (by show ¬ c.h = g; omega)).trans h.c1, (on.cell (p := ⟨c.h, 2, none⟩) hlt (by show ¬ c.h = g; omega)).trans h.c2,
    fun j => (on.frozen (p := ⟨c.h, j, none⟩) hlt (by show ¬ c.h = g; omega)).trans (h.fz j), by rw [List.length_set]; exact h1, h.row.only on (by show ¬ c.x = g; omega), h.ord, Nat.lt_of_lt_of_le hlt on.size, h.small, by rw [List.length_set]; exact h.few⟩
/-- In the loop: j of them have been moved. -/
structure CmInv (w1 : World) (c : Hp) (v : Value) (n : Nat) (B : List (Option Bk)) (S : List Nat) (j : Nat) (wr : World) : Prop where
  ex : ∃ B' V', HeapM wr c v n B' (nextB B) V' ∧ CmpAt n B S j B' V'
  on : Only (HF c v) w1 wr
/-- What the loop's round at j needs, the numbers named. -/
theorem CmInv.round {w1 wr : World} {S : List Nat} {j : Nat} (I : CmInv w1 c v n B S j wr) (hp : Placed B S) (hg : GoodB n B) (hj : j < S.length) :
    ∃ (k a l E g cap : Nat) (ws : List Int) (B' : List (Option Bk)) (V' : Nat → Int), S.getD j 0 = k ∧ endS B S j = E ∧ ws.length = l ∧ 0 < l ∧ E ≤ a ∧ a + l ≤ n ∧ endS B S (j + 1) = E + l ∧ movedN B S (j + 1) = movedN B S j + (if a = E then 0 else 1) ∧
      v = .slice (some ⟨g, 0, none⟩) B.length cap ∧ k < B.length ∧ HeapM wr c v n B' (nextB B) V' ∧ CmpAt n B S j B' V' ∧ look B k = some ⟨a, ws⟩ ∧ look B' k = some ⟨a, ws⟩ ∧ B'.length = B.length ∧ B.length ≤ cap ∧ c.h < g ∧ g < wr.heap.size ∧
      wr.cell? ⟨g, k * 2, none⟩ = some (.int .i64 a) ∧ wr.cell? ⟨g, k * 2 + 1, none⟩ = some (.int .i64 l) ∧ (∀ q, wr.frozen? ⟨g, q, none⟩ = false) ∧ (∀ q, q < l → V' (a + q) = ws.getD q 0) := by
  obtain ⟨B', V', hm, ca⟩ := I.ex
  obtain ⟨b, h1, h2, h3⟩ := len_some (hp.pos hj)
  have hh := ca.here hp hj
  rw [h1] at hh
  have hk := look_lt h1
  obtain ⟨g, cap, hv, hc, g1, g2, e0, e1, ef⟩ := hm.rows (k := S.getD j 0) (by rw [ca.len]; exact hk)
  rw [hh] at e0 e1
  rw [ca.len] at hv hc
  have hle := hp.end_le hg hj
  rw [atB_some h1] at hle
  refine ⟨_, b.a, b.ws.length, _, g, cap, b.ws, B', V', rfl, rfl, rfl, by rw [h2]; exact hp.pos hj, hle, hg.fits _ b h1, by simp only [endS]; rw [h2], ?_, hv, hk, hm, ca, h1, hh, ca.len, hc, g1, g2, e0, e1, ef, fun q hq => ca.word _ b q hh hq⟩
  simp only [movedN]
  rw [atB_some h1]
set_option maxHeartbeats 8000000 in
theorem compact_any (h : HeapAt w c v n B) : Calls Try.prog 19 #[.pointer (some ⟨c.h, 0, none⟩)] w (CompPost c v n B w) := by
  have HH := Lib.hid h
  have HP := Lib.hid (placed_any h)
  have few := h.m.few
  have hs := h.m.small
  have hlt := h.m.lt
  have hod := h.m.ord
  clear h
  go_enter Try.func19, Try.ntmps19
  go_wp2_with fail
  refine HP.out.mono ?_
  rintro e w1 ⟨S, u, rfl, pl, hSl, rs, b1⟩
  have PL := Lib.hid pl
  have B1 := Lib.hid b1
  have H1 := Lib.hid (HH.out.fresh b1)
  obtain ⟨au, cpu, rfl, RU⟩ : ∃ a cp, u = .slice a S.length cp ∧ Hid (∀ j, j < S.length → ∃ g, a = some ⟨g, 0, none⟩ ∧ w.heap.size ≤ g ∧ g < w1.heap.size ∧ w1.cell? ⟨g, j, none⟩ = some (.int .i64 (S.getD j 0 : Nat))) := by
    rcases rs with ⟨rfl, rfl⟩ | ⟨g, cp, rfl, _, hg, hgs, hr⟩
    · exact ⟨none, 0, rfl, Lib.hid (fun j hj => by simp at hj)⟩
    · exact ⟨_, cp, rfl, Lib.hid (fun j hj => ⟨g, rfl, hg, hgs, (hr j hj).1⟩)⟩
  have HFL : Hid (∀ k, HF c v k → k < w.heap.size) := HF_lt HH.out.m
  have I0 : Hid (CmInv w1 c v n B S 0 w1) := ⟨⟨B, wordAt B, H1.out.m, cmp_start H1.out.good⟩, Only.refl _ _⟩
  clear pl b1 rs
  go_wp2_with fail
  go_loopg [3, 4, 13] S.length (fun g s3 s4 s13 wr => ∃ j : Nat, s3 = .int .i64 (movedN B S j) ∧ s4 = .int .i64 (endS B S j) ∧ s13 = .int .i64 j ∧ j ≤ S.length ∧ S.length - j ≤ g ∧ Hid (CmInv w1 c v n B S j wr))
  case atStart => exact ⟨0, rfl, rfl, rfl, Nat.zero_le _, by omega, I0⟩
  case round =>
    clear I0
    obtain ⟨j, rfl, rfl, rfl, hj, hg, I⟩ := hrel
    have hmv := movedN_le B S j
    by_cases hlt2 : j < S.length
    · obtain ⟨k, a, l, E, g, cap, ws, B', V', hk, hE, hwl, hl0, hEa, hal, hE2, hM2, rfl, hkB, hm, ca, hb, hb', hBl, hcap, hg1, hg2, e0, e1, ef, hV⟩ := I.out.round PL.out HH.out.good hlt2
      obtain ⟨gu, rfl, hu1, hu2, cu⟩ := RU.out j hlt2
      have ON := Lib.hid I.out.on
      have hgF : ∀ q, HF c (.slice (some ⟨g, 0, none⟩) B.length cap) q → ¬ q = gu := fun q hq e => by have := HFL.out q hq; omega
      have cu' : wr.cell? ⟨gu, j, none⟩ = some (.int .i64 (k : Nat)) := by
        rw [← hk]; exact (ON.out.cell (p := ⟨gu, j, none⟩) hu2 (fun hq => hgF _ hq rfl)).trans cu
      clear cu I hgF
      have HM := Lib.hid hm
      have CA := Lib.hid ca
      have HB := Lib.hid hb
      have HB' := Lib.hid hb'
      have HK := Lib.hid hk
      have HE := Lib.hid hE
      have HE2 := Lib.hid hE2
      have HM2 := Lib.hid hM2
      have HV := Lib.hid hV
      have HWL := Lib.hid hwl
      have EF := Lib.hid ef
      have d1 := hm.c1
      have hlw := hm.lt
      rw [hE] at ⊢
      obtain ⟨m, hm0⟩ : ∃ m, movedN B S j = m := ⟨_, rfl⟩
      have HM0 := Lib.hid hm0
      rw [hm0] at hmv ⊢
      clear hm ca hb hb' hk hE hE2 hM2 hV hwl ef hm0
      have hkB' : (k : Int) < B.length := by omega
      have X1 := Lib.hid (box_new wr a l 58)
      have B2 : Hid (Below wr.heap.size wr (wr.alloc (.cells #[.int .i64 (a : Int), .int .i64 (l : Int)] 58))) := (Below.refl _ _).alloc (Nat.le_refl _) _
      by_cases haE : a = E
      · have hd : ((a : Int) != (E : Int)) = false := by simp [haE]
        have hz : Hid (movedN B S (j + 1) = m) := by show _ = _; rw [HM2.out, HM0.out, if_pos haE]; rfl
        have HAE := Lib.hid haE
        clear haE
        go_wp2_with fail
        go_roundg (S.length - (j + 1))
        case measure => omega
        case rel => exact ⟨j + 1, by rw [hz.out], by rw [HE2.out]; go_num, by go_num, by omega, Nat.le_refl _, Lib.hid ⟨⟨B', V', HM.out.fresh B2.out, by
          have := CA.out.stay PL.out hlt2 (by rw [HK.out, atB_some HB.out, HE.out]; exact HAE.out)
          exact this⟩, ON.out.then_ (Only.of_below (F := HF c (.slice (some ⟨g, 0, none⟩) B.length cap)) B2.out) (fun _ _ h => h)⟩⟩
      · have hd : ((a : Int) != (E : Int)) = true := by simp; omega
        have hz : Hid (movedN B S (j + 1) = m + 1) := by show _ = _; rw [HM2.out, HM0.out, if_neg haE]
        go_wp2_with fail
        have H2 := Lib.hid (HM.out.fresh B2.out)
        have hsz : (wr.alloc (.cells #[.int .i64 (a : Int), .int .i64 (l : Int)] 58)).heap.size = wr.heap.size + 1 := by simp
        generalize wr.alloc (.cells #[.int .i64 (a : Int), .int .i64 (l : Int)] 58) = w2 at X1 B2 H2 hsz ⊢
        clear e0 e1 d1 cu'
        have c0 := H2.out.c0
        obtain ⟨x0, x1, _⟩ := X1.out
        have KO : Hid (∀ q, Calls Try.prog 23 #[.pointer (some ⟨c.h, 0, none⟩), .agg #[.int .i64 a, .int .i64 l]] (w2.drewN q) (OfPost c.x a l (w2.drewN q))) := Lib.hid (fun q => of_any a l (H2.out.fresh (below_drewN (Below.refl _ _) q)) hal)
        have KR : Hid (∀ (q : Nat) (w3 : World) (p : Option Addr) (cp : Nat), Below (w2.drewN q).heap.size (w2.drewN q) w3 → (0 < l → p = some ⟨c.x, a, none⟩) → l ≤ cp → (Builtin.copy_ #[29, 29] 3 #[.slice (some ⟨c.x, E, none⟩) (n - E) (n - E), .slice p l cp]).run Try.prog w3 = .ok (.int .i64 l) (w3.setCells c.x E (ws.map (Value.int .i64)))) := Lib.hid (fun q w3 p cp hb hp hcp => by
          have h3 := H2.out.fresh (w' := w3) ⟨hb.os, hb.tape, hb.output, hb.size, hb.block⟩
          have hi : Ints (fun _ => True) w3 (.slice p l cp) ws := ⟨p, cp, by rw [List.length_map, HWL.out], by rw [List.length_map, HWL.out]; exact hcp, .inr ⟨c.x, a, hp hl0, trivial, fun i u hu => by
            rw [List.getElem?_map] at hu
            obtain ⟨y, hy, rfl⟩ := Option.map_eq_some_iff.1 hu
            have hil := (List.getElem?_eq_some_iff.1 hy).1
            have hil2 : i < l := by rw [← HWL.out]; exact hil
            rw [(h3.row (a + i) (by omega)).1, HV.out i hil2, List.getD, hy]; rfl⟩⟩
          have := copy_run h3.row E (n - E) (n - E) (some ⟨c.x, E, none⟩) _ ws hi (fun _ => rfl) (by rw [HWL.out]; omega) (by rw [HWL.out]; omega) 3
          rw [HWL.out] at this
          exact this)
        have hch2 : c.h < w2.heap.size := H2.out.lt
        have KS : Hid (∀ w', Below (w2.drewN 1).heap.size (w2.drewN 1) w' → w'.cell? ⟨c.h, 0, none⟩ = some (.slice (some ⟨c.x, 0, none⟩) n n) ∧ w'.cell? ⟨wr.heap.size, 0, none⟩ = some (.int .i64 (a : Int)) ∧ w'.cell? ⟨wr.heap.size, 1, none⟩ = some (.int .i64 (l : Int))) := Lib.hid (fun w' hb => by
          have hb' : Below w2.heap.size w2 w' := ⟨hb.os, hb.tape, hb.output, hb.size, hb.block⟩
          exact ⟨(hb'.cell (p := ⟨c.h, 0, none⟩) hch2).trans c0, (hb'.cell (p := ⟨wr.heap.size, 0, none⟩) (by show wr.heap.size < _; omega)).trans x0, (hb'.cell (p := ⟨wr.heap.size, 1, none⟩) (by show wr.heap.size < _; omega)).trans x1⟩)
        have KS2 : Hid (∀ w', Below (w2.drewN 1).heap.size (w2.drewN 1) w' → (w'.setCells c.x E (ws.map (Value.int .i64))).cell? ⟨c.h, 0, none⟩ = some (.slice (some ⟨c.x, 0, none⟩) n n) ∧ (w'.setCells c.x E (ws.map (Value.int .i64))).cell? ⟨wr.heap.size, 0, none⟩ = some (.int .i64 (a : Int)) ∧ (w'.setCells c.x E (ws.map (Value.int .i64))).cell? ⟨wr.heap.size, 1, none⟩ = some (.int .i64 (l : Int))) := Lib.hid (fun w' hb => by
          obtain ⟨k1, k2, k3⟩ := KS.out w' hb
          have hne : wr.heap.size ≠ c.x := by omega
          refine ⟨?_, ?_, ?_⟩
          · rw [World.cell?_setCells_out _ _ _ _ _ (fun e _ => absurd e (by show ¬ c.h = c.x; omega))]; exact k1
          · rw [World.cell?_setCells_out _ _ _ _ _ (fun e _ => absurd e hne)]; exact k2
          · rw [World.cell?_setCells_out _ _ _ _ _ (fun e _ => absurd e hne)]; exact k3)
        have hEn : (E : Int) < n := by omega
        have hEn2 : (E : Int) ≤ n := by omega
        have hE0 : (0 : Int) ≤ E := by omega
        go_region_held3 (fun w' => w'.cell? ⟨c.h, 0, none⟩ = some (.slice (some ⟨c.x, 0, none⟩) n n) ∧ w'.cell? ⟨wr.heap.size, 0, none⟩ = some (.int .i64 (a : Int)) ∧ w'.cell? ⟨wr.heap.size, 1, none⟩ = some (.int .i64 (l : Int))) (first | go_keep | exact KS.out _ b3 | exact KS2.out _ b3) (first | (go_at_call 23; refine (KO.out 1).mono ?_; rintro e w3 ⟨p, cp, rfl, hp, hcp, hpo, b3⟩; have hpe := hp hl0; subst hpe; have hcr := KR.out 1 w3 _ cp b3 (fun _ => rfl) hcp))
        have b3' : Below w2.heap.size w2 w3 := ⟨b3.os, b3.tape, b3.output, b3.size, b3.block⟩
        obtain ⟨_, x2, x3⟩ := KS2.out w3 b3
        have hm4 := (H2.out.fresh b3').filled (V' := over V' E ws) ((H2.out.fresh b3').row.over E ws (by rw [HWL.out]; omega)) (only_setCells (Only.refl _ _) (.inl rfl))
        have on4 : Only (HF c (.slice (some ⟨g, 0, none⟩) B.length cap)) w1 (w3.setCells c.x E (ws.map (Value.int .i64))) :=
          only_setCells (ON.out.then_ (Only.of_below (F := HF c (.slice (some ⟨g, 0, none⟩) B.length cap)) (B2.out.trans (b3'.mono B2.out.size))) (fun _ _ h => h)) (.inl (.inl rfl))
        have H4 := Lib.hid hm4
        have ON4 := Lib.hid on4
        clear hm4 on4 x0 x1 c0 hcr b3 b3' hcp hpo hp KO KR KS KS2 H2 X1
        generalize w3.setCells c.x E (ws.map (Value.int .i64)) = w4 at x2 x3 H4 ON4 ⊢
        obtain ⟨g', cap', hv', hc', hg1', hg2', e0, e1, ef⟩ := H4.out.rows (k := k) (by omega)
        injection hv' with q1 q2 q3
        injection q1 with q1
        injection q1 with q1 _ _
        subst q1
        have ef0 := ef (k * 2)
        have d1 := H4.out.c1
        have hne : ¬ g = wr.heap.size := by omega
        have hne2 : ¬ wr.heap.size = g := by omega
        have x4 : (w4.setCell ⟨g, k * 2, none⟩ (.int .i64 E)).cell? ⟨wr.heap.size, 1, none⟩ = some (.int .i64 (l : Int)) := by
          rw [World.cell?_setCell_other _ _ _ _ (by intro e; injection e with e1; exact hne e1)]; exact x3
        have H5 : Hid (HeapM (w4.setCell ⟨g, k * 2, none⟩ (.int .i64 E)) c (.slice (some ⟨g, 0, none⟩) B.length cap) n (B'.set k (some ⟨E, ws⟩)) (nextB B) (over V' E ws)) := by
          have h4 := H4.out
          rw [← hBl] at h4 ⊢
          exact h4.row_at HB'.out rfl
        clear q2 q3 hc' hg1' ef
        go_wp2_with fail
        go_roundg (S.length - (j + 1))
        case measure => omega
        case rel => exact ⟨j + 1, by rw [hz.out]; go_num, by rw [HE2.out]; go_num, by go_num, by omega, Nat.le_refl _, Lib.hid ⟨⟨_, _, H5.out, by
          have := CA.out.move PL.out HH.out.good hlt2 (by rw [HK.out]; exact HB.out)
          rw [HK.out, HE.out] at this
          exact this⟩, ON4.out.setCell ⟨g, k * 2, none⟩ (.inl (.inr (.inr rfl))) _⟩⟩
    · obtain rfl : j = S.length := by omega
      obtain ⟨B', V', hm, ca⟩ := I.out.ex
      have c0 := hm.c0
      have HM := Lib.hid hm
      have CA := Lib.hid ca
      have HD := Lib.hid (ca.done PL.out HH.out.good)
      have HEN := PL.out.end_top HH.out.good (Nat.le_refl S.length)
      obtain ⟨E, hE⟩ : ∃ E, endS B S S.length = E := ⟨_, rfl⟩
      have HE := Lib.hid hE
      rw [hE] at HEN ⊢
      obtain ⟨m, hm0⟩ : ∃ m, movedN B S S.length = m := ⟨_, rfl⟩
      have HM0 := Lib.hid hm0
      rw [hm0] at hmv ⊢
      clear hm ca hE hm0
      have fin : Hid (∀ w4, RowV w4 c.x n (fillV V' E (n - E) (-1)) → Only (· = c.x) wr w4 → CompPost c v n B w (.returned (.int .i64 m)) w4) := Lib.hid (fun w4 hr ho => by
        have h4 := HM.out.filled hr ho
        have hd := HD.out.1
        refine ⟨m, B', S, rfl, by rw [← HM0.out]; exact hd, ⟨?_, hd.good⟩, ?_⟩
        · rw [hd.next]
          refine h4.congr fun i hi => ?_
          rw [← HD.out.2 i hi, HE.out]
          simp only [fillV]
          by_cases hEi : E ≤ i
          · rw [if_pos hEi, if_pos ⟨hEi, by omega⟩]
          · rw [if_neg hEi, if_neg (fun h => hEi h.1)]
        · exact (Only.of_below (F := HF c v) B1.out).then_ (I.out.on.then_ ho (fun _ _ h => .inl h)) (fun _ _ h => h))
      by_cases hEn : E = n
      · subst hEn
        have hz : E - E = 0 := by omega
        go_wp2_with fail
        refine (fill_any c.x E V' E 0 0 (some ⟨c.x, 0, none⟩) (-1) wr HM.out.row (by omega) hs (fun h => by omega)).mono ?_
        rintro e w4 ⟨rfl, hr, ho⟩
        have FN := Lib.hid (fin.out w4 (by rw [hz]; exact hr) ho)
        go_wp2_with fail
        go_ret
        exact FN.out
      · have hEn2 : (E : Int) < n := by omega
        go_wp2_with fail
        refine (fill_any c.x n V' E (n - E) (n - E) (some ⟨c.x, E, none⟩) (-1) wr HM.out.row (by omega) hs (fun _ => rfl)).mono ?_
        rintro e w4 ⟨rfl, hr, ho⟩
        have FN := Lib.hid (fin.out w4 hr ho)
        go_wp2_with fail
        go_ret
        exact FN.out
end
end Go.Proofs.Ytgfjfpfhalblgaa
