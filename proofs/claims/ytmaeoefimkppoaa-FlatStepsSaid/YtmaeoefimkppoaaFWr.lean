/- What Set and SetByte of a memory do. -/
import Derived.Test.YtmaeoefimkppoaaFRd
namespace Go.Proofs.Ytmaeoefimkppoaa.Fl
set_option maxRecDepth 1000000
open Go.ChangeShapes Go.WideShapes Go.ChangeAt Go.RowKit
open Go.Proofs.Ytmaeoefimkppoaa.Wd

theorem ref10_any (v : Int) (w : World) (h1 : -9223372036854775808 ≤ v) (h2 : v ≤ 9223372036854775807) :
    Calls Try.prog 40 #[.int .i64 v] w fun e w' => e = .returned (.bool (valB v)) ∧ w = w' := by
  have e : valB v = (numB v || namB v) := rfl
  rw [e]
  have HA := Lib.hid (number_any v · h1 h2)
  have HB := Lib.hid (named_any v · h1 h2)
  generalize numB v = p at HA
  generalize namB v = q at HB
  generalize numV v = x at HA
  generalize namV v = y at HB
  clear e
  go_enter Try.func40, Try.ntmps40
  go_wp2_with fail
  refine (HA.out _).mono ?_
  rintro e w1 ⟨rfl, rfl⟩
  go_wp2_with fail
  refine (HB.out _).mono ?_
  rintro e w1 ⟨rfl, rfl⟩
  cases p
  · go_wp2
    go_ret
    exact ⟨rfl, rfl⟩
  · go_wp2
    go_ret
    exact ⟨rfl, rfl⟩
theorem only_set (w : World) (g j : Nat) (u : Value) : Only (· = g) w (w.setCell ⟨g, j, none⟩ u) := (Only.refl (fun x => x = g) w).setCell ⟨g, j, none⟩ rfl u
theorem only_keeps {K : Nat → Prop} {g : Nat} {w w' : World} (h : Only (· = g) w w') (hg : ¬ K g) : Keeps K w w' := ⟨h.os, h.tape, h.output, h.size, fun k hk hn => h.block k hk fun e => hn (by rw [e]; exact hg)⟩
def WrPost (K : Nat → Prop) (m : Nat) (E' : Mem) (t : Int) (w : World) (e : Ending) (w' : World) : Prop := e = .returned (.int .i64 t) ∧ MemB K w' m E' ∧ Keeps K w w'
section
variable {w w' : World} {K : Nat → Prop} {m : Nat} {r : Option Nat} {nv : Value} {L : List (Option En)}
theorem valB_ok {o : Ob} (h : okO o = true) (hk : o.k = 1) (j : Nat) {v : Int} (hv : valB v = true) : okO { o with w := o.w.set j v } = true := by
  rw [okO_iff] at h ⊢
  rcases h with ⟨h1, ⟨_, h2, h3, h4⟩ | ⟨h2, _⟩⟩
  · refine ⟨h1, .inl ⟨hk, h2, by simpa using h3, fun x hx => ?_⟩⟩
    rcases List.mem_or_eq_of_mem_set hx with hx | rfl
    · exact h4 x hx
    · exact hv
  · rw [hk] at h2; cases h2
theorem bytB_ok {o : Ob} (h : okO o = true) (hk : o.k = 2) (j : Nat) (v : Int) : okO { o with b := o.b.set j v } = true := by
  rw [okO_iff] at h ⊢
  rcases h with ⟨h1, ⟨h2, _⟩ | ⟨_, h2, h3⟩⟩
  · rw [hk] at h2; cases h2
  · exact ⟨h1, .inr ⟨hk, h2, by simpa using h3⟩⟩
theorem MemR.setw (h : MemR w K m r nv L) {i v : Int} {e : En} {g c j : Nat} (he : at_ L i = some e) (hv : e.rv = .slice (some ⟨g, 0, none⟩) e.o.w.length c) (hk : e.o.k = 1) (hj : j < e.o.w.length) (hvv : valB v = true)
    (hrow : w.ownsRow 0 3 1 (.slice (some ⟨g, 0, none⟩) e.o.w.length c) e.o.w.length (e.o.w.map (Value.int .i64))) :
    MemR (w.setCell ⟨g, j, none⟩ (.int .i64 v)) K m r nv (setAt L i (some ⟨{ e.o with w := e.o.w.set j v }, e.rv⟩)) := by
  refine h.turn (e' := ⟨{ e.o with w := e.o.w.set j v }, e.rv⟩) he (only_set w g j _) (by rw [hv]; rfl) rfl ⟨valB_ok (h.rows i e he).ok hk j hvv, (h.rows i e he).by_, .inl ⟨hk, ?_⟩⟩ rfl
  have := own_put hrow hj (.int .i64 v)
  simp only
  rw [hv, List.length_set, List.map_set]
  exact this
theorem MemR.setb (h : MemR w K m r nv L) {i v : Int} {e : En} {g c j : Nat} (he : at_ L i = some e) (hv : e.rv = .slice (some ⟨g, 0, none⟩) e.o.b.length c) (hk : e.o.k = 2) (hj : j < e.o.b.length) (hvv : bytB v = true)
    (hrow : w.ownsRow 0 5 1 (.slice (some ⟨g, 0, none⟩) e.o.b.length c) e.o.b.length (e.o.b.map (Value.int .u8))) :
    MemR (w.setCell ⟨g, j, none⟩ (.int .u8 v)) K m r nv (setAt L i (some ⟨{ e.o with b := e.o.b.set j v }, e.rv⟩)) := by
  refine h.turn (e' := ⟨{ e.o with b := e.o.b.set j v }, e.rv⟩) he (only_set w g j _) (by rw [hv]; rfl) rfl ⟨bytB_ok (h.rows i e he).ok hk j v, fun x hx => ?_, .inr ⟨hk, ?_⟩⟩ rfl
  · rcases List.mem_or_eq_of_mem_set hx with hx | rfl
    · exact (h.rows i e he).by_ x hx
    · simpa [bytB] using hvv
  · have := own_put hrow hj (.int .u8 v)
    simp only
    rw [hv, List.length_set, List.map_set]
    exact this
end

set_option maxHeartbeats 1000000 in
theorem set_any {w : World} {K : Nat → Prop} {m : Nat} {E : Mem} (h : MemB K w m E) (o i v : Int) (ho : In64 o) (hv64 : In64 v) :
    Calls Try.prog 32 #[.pointer (some ⟨m, 0, none⟩), .int .i64 o, .int .i64 i, .int .i64 v] w (WrPost K m (setF E o i v) (setE E o i v) w) := by
  obtain ⟨r, nv, L, h, rfl⟩ := h
  have HO := Lib.hid (open_any h o 1 i ho)
  rcases opE_in (mapO En.o L) o 1 i with ht | ⟨hn, hb⟩
  · obtain ⟨e, g, c, he, hv, hk, h0, h1, hlen, hobj, hV, hrow⟩ := open_words h ht
    obtain ⟨j, rfl⟩ := Int.eq_ofNat_of_zero_le h0
    have hj : j < e.o.w.length := by omega
    unfold OpenPost at HO
    rw [hV, ht] at HO
    have hg : ¬ K g := h.ko _ e he g (by rw [hv]; rfl)
    cases hvv : valB v with
    | true =>
      have hE : setE (mapO En.o L) o j v = 0 := by unfold setE; rw [if_pos ht, hvv]; rfl
      have hF : setF (mapO En.o L) o j v = mapO En.o (setAt L (namV o) (some ⟨{ e.o with w := e.o.w.set j v }, e.rv⟩)) := by
        unfold setF
        rw [if_pos hE, mapO_set, hobj, Int.toNat_natCast]
        rfl
      have HM : Hid (∀ w1, Below w.heap.size w w1 → MemR (w1.setCell ⟨g, j, none⟩ (.int .i64 v)) K m r nv (setAt L (namV o) (some ⟨{ e.o with w := e.o.w.set j v }, e.rv⟩))) := fun w1 hb => (h.fresh hb).setw he hv hk hj hvv (own_kept hrow hb)
      have HC : Hid (∀ w1, Below w.heap.size w w1 → w1.cell? ⟨g, j, none⟩ = some (.int .i64 (e.o.w.getD j 0)) ∧ w1.frozen? ⟨g, j, none⟩ = false) := fun w' hb => ⟨(own_cells (own_kept hrow hb)).1 j _ (getD_map hj), (own_cells (own_kept hrow hb)).2 j⟩
      have HG := Lib.hid hg
      rw [hE, hF]
      have HR : Hid (∀ w, Calls Try.prog 40 #[.int .i64 v] w fun e w' => e = .returned (.bool (valB v)) ∧ w = w') := Lib.hid fun w => ref10_any v w hv64.1 hv64.2
      rw [hvv] at HR
      clear hvv
      clear h ho he hV hF hrow ht hobj h0 h1 hv hk hg hE
      generalize e.o.w.getD j 0 = z at *
      generalize e.o.w.length = n at *
      generalize e.o.c = cc at *
      have hjn : (j : Int) < n := by omega
      go_enter Try.func32, Try.ntmps32
      go_wp2_with (first | (go_at_call 60; refine HO.out.mono ?_; rintro e' w1 ⟨rfl, hb⟩; have K1 := Lib.hid hb; obtain ⟨C1, C2⟩ := HC.out w1 hb; have lt1 := World.block_lt_of_cell? _ _ C1) | (go_at_call 40; refine (HR.out _).mono ?_; rintro e2 w2 ⟨rfl, rfl⟩))
      go_ret
      exact ⟨rfl, ⟨r, nv, _, (HM.out _ K1.out).fresh (below_new _ _), rfl⟩, (Keeps.of_below K1.out).trans ((only_keeps (only_set w1 g j _) HG.out).trans (Keeps.of_below (below_new _ _)))⟩
    | false =>
      have hE : setE (mapO En.o L) o j v = 2 := by unfold setE; rw [if_pos ht, hvv]; rfl
      have hF : setF (mapO En.o L) o j v = mapO En.o L := by
        unfold setF
        rw [hE]; rfl
      have HM : Hid (∀ w1, Below w.heap.size w w1 → MemR w1 K m r nv L) := fun w1 hb => h.fresh hb
      rw [hE, hF]
      have HR : Hid (∀ w, Calls Try.prog 40 #[.int .i64 v] w fun e w' => e = .returned (.bool (valB v)) ∧ w = w') := Lib.hid fun w => ref10_any v w hv64.1 hv64.2
      rw [hvv] at HR
      clear hvv
      clear h ho he hV hF hrow ht hobj h0 h1 hv hk hg hE
      generalize e.o.w.length = n at *
      generalize e.o.c = cc at *
      go_enter Try.func32, Try.ntmps32
      go_wp2_with (first | (go_at_call 60; refine HO.out.mono ?_; rintro e' w1 ⟨rfl, hb⟩; have K1 := Lib.hid hb) | (go_at_call 40; refine (HR.out _).mono ?_; rintro e2 w2 ⟨rfl, rfl⟩))
      all_goals go_ret
      all_goals exact ⟨rfl, ⟨r, nv, _, HM.out _ (K1.out.trans ((below_new w1 _).mono K1.out.size)), rfl⟩, Keeps.of_below (K1.out.trans ((below_new w1 _).mono K1.out.size))⟩
  · have hE : setE (mapO En.o L) o i v = opE (mapO En.o L) o 1 i := by unfold setE; rw [if_neg hn]
    have hF : setF (mapO En.o L) o i v = mapO En.o L := by unfold setF; rw [if_neg (by rw [hE]; exact hn)]
    have HM : Hid (∀ w1, Below w.heap.size w w1 → MemR w1 K m r nv L) := fun w1 hb => h.fresh hb
    unfold OpenPost at HO
    rw [openV_no hn] at HO
    rw [hF, hE]
    clear h ho hn hF hE
    generalize opE (mapO En.o L) o 1 i = t at *
    go_enter Try.func32, Try.ntmps32
    go_wp2_with (go_at_call 60; refine HO.out.mono ?_; rintro e' w1 ⟨rfl, hb⟩; have K1 := Lib.hid hb)
    go_ret
    exact ⟨rfl, ⟨r, nv, _, HM.out _ (K1.out.trans ((below_new w1 _).mono K1.out.size)), rfl⟩, Keeps.of_below (K1.out.trans ((below_new w1 _).mono K1.out.size))⟩

set_option maxHeartbeats 1000000 in
theorem setb_any {w : World} {K : Nat → Prop} {m : Nat} {E : Mem} (h : MemB K w m E) (o i v : Int) (ho : In64 o) (_hv64 : In64 v) :
    Calls Try.prog 34 #[.pointer (some ⟨m, 0, none⟩), .int .i64 o, .int .i64 i, .int .i64 v] w (WrPost K m (setbF E o i v) (setbE E o i v) w) := by
  obtain ⟨r, nv, L, h, rfl⟩ := h
  have HO := Lib.hid (open_any h o 2 i ho)
  rcases opE_in (mapO En.o L) o 2 i with ht | ⟨hn, hb⟩
  · obtain ⟨e, g, c, he, hv, hk, h0, h1, hlen, hobj, hV, hrow⟩ := open_byts h ht
    obtain ⟨j, rfl⟩ := Int.eq_ofNat_of_zero_le h0
    have hj : j < e.o.b.length := by omega
    unfold OpenPost at HO
    rw [hV, ht] at HO
    have hg : ¬ K g := h.ko _ e he g (by rw [hv]; rfl)
    cases hvv : bytB v with
    | true =>
      have hE : setbE (mapO En.o L) o j v = 0 := by unfold setbE; rw [if_pos ht, hvv]; rfl
      have hF : setbF (mapO En.o L) o j v = mapO En.o (setAt L (namV o) (some ⟨{ e.o with b := e.o.b.set j v }, e.rv⟩)) := by
        unfold setbF
        rw [if_pos hE, mapO_set, hobj, Int.toNat_natCast]
        rfl
      have HM : Hid (∀ w1, Below w.heap.size w w1 → MemR (w1.setCell ⟨g, j, none⟩ (.int .u8 v)) K m r nv (setAt L (namV o) (some ⟨{ e.o with b := e.o.b.set j v }, e.rv⟩))) := fun w1 hb => (h.fresh hb).setb he hv hk hj hvv (own_kept hrow hb)
      have HC : Hid (∀ w1, Below w.heap.size w w1 → w1.cell? ⟨g, j, none⟩ = some (.int .u8 (e.o.b.getD j 0)) ∧ w1.frozen? ⟨g, j, none⟩ = false) := fun w' hb => ⟨(own_cells (own_kept hrow hb)).1 j _ (getD_map hj), (own_cells (own_kept hrow hb)).2 j⟩
      have HG := Lib.hid hg
      rw [hE, hF]
      obtain ⟨v1, v2⟩ : 0 ≤ v ∧ v ≤ 255 := by simpa [bytB] using hvv
      clear hvv
      clear h ho he hV hF hrow ht hobj h0 h1 hv hk hg hE
      generalize e.o.b.getD j 0 = z at *
      generalize e.o.b.length = n at *
      generalize e.o.c = cc at *
      have hjn : (j : Int) < n := by omega
      go_enter Try.func34, Try.ntmps34
      go_wp2_with (first | (go_at_call 60; refine HO.out.mono ?_; rintro e' w1 ⟨rfl, hb⟩; have K1 := Lib.hid hb; obtain ⟨C1, C2⟩ := HC.out w1 hb; have lt1 := World.block_lt_of_cell? _ _ C1) )
      go_ret
      exact ⟨rfl, ⟨r, nv, _, (HM.out _ K1.out).fresh (below_new _ _), rfl⟩, (Keeps.of_below K1.out).trans ((only_keeps (only_set w1 g j _) HG.out).trans (Keeps.of_below (below_new _ _)))⟩
    | false =>
      have hE : setbE (mapO En.o L) o j v = 2 := by unfold setbE; rw [if_pos ht, hvv]; rfl
      have hF : setbF (mapO En.o L) o j v = mapO En.o L := by
        unfold setbF
        rw [hE]; rfl
      have HM : Hid (∀ w1, Below w.heap.size w w1 → MemR w1 K m r nv L) := fun w1 hb => h.fresh hb
      rw [hE, hF]
      have hvv' : ¬ (0 ≤ v ∧ v ≤ 255) := by simpa [bytB] using hvv
      clear hvv
      have hv3 : (decide (v < 0) || decide (255 < v)) = true := by simp; omega
      clear h ho he hV hF hrow ht hobj h0 h1 hv hk hg hE hvv'
      generalize e.o.b.length = n at *
      generalize e.o.c = cc at *
      go_enter Try.func34, Try.ntmps34
      go_wp2_with (first | (go_at_call 60; refine HO.out.mono ?_; rintro e' w1 ⟨rfl, hb⟩; have K1 := Lib.hid hb) )
      all_goals go_ret
      all_goals exact ⟨rfl, ⟨r, nv, _, HM.out _ (K1.out.trans ((below_new w1 _).mono K1.out.size)), rfl⟩, Keeps.of_below (K1.out.trans ((below_new w1 _).mono K1.out.size))⟩
  · have hE : setbE (mapO En.o L) o i v = opE (mapO En.o L) o 2 i := by unfold setbE; rw [if_neg hn]
    have hF : setbF (mapO En.o L) o i v = mapO En.o L := by unfold setbF; rw [if_neg (by rw [hE]; exact hn)]
    have HM : Hid (∀ w1, Below w.heap.size w w1 → MemR w1 K m r nv L) := fun w1 hb => h.fresh hb
    unfold OpenPost at HO
    rw [openV_no hn] at HO
    rw [hF, hE]
    clear h ho hn hF hE
    generalize opE (mapO En.o L) o 2 i = t at *
    go_enter Try.func34, Try.ntmps34
    go_wp2_with (go_at_call 60; refine HO.out.mono ?_; rintro e' w1 ⟨rfl, hb⟩; have K1 := Lib.hid hb)
    go_ret
    exact ⟨rfl, ⟨r, nv, _, HM.out _ (K1.out.trans ((below_new w1 _).mono K1.out.size)), rfl⟩, Keeps.of_below (K1.out.trans ((below_new w1 _).mono K1.out.size))⟩
end Go.Proofs.Ytmaeoefimkppoaa.Fl
