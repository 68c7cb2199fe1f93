/- What Obj and Made of a memory return. -/
import Derived.Test.YtmaeoefimkppoaaFWr
namespace Go.Proofs.Ytmaeoefimkppoaa.Fl
set_option maxRecDepth 1000000
open Go.ChangeShapes Go.WideShapes Go.ChangeAt Go.RowKit
open Go.Proofs.Ytmaeoefimkppoaa.Wd

/-- The value is the object o, in rows of its own from the block q on. -/
def OwnO (q : Nat) (w : World) (v : Value) (o : Ob) : Prop :=
  ∃ wv bv, v = .agg #[.int .i64 o.c, .int .i64 o.k, wv, bv] ∧ w.ownsRow q 3 1 wv o.w.length (o.w.map (Value.int .i64)) ∧ w.ownsRow q 5 1 bv o.b.length (o.b.map (Value.int .u8))
theorem OwnO.fresh {q : Nat} {w w' : World} {v : Value} {o : Ob} (h : OwnO q w v o) (hb : Below w.heap.size w w') : OwnO q w' v o := by
  obtain ⟨a, b, rfl, h1, h2⟩ := h
  exact ⟨a, b, rfl, own_kept h1 hb, own_kept h2 hb⟩
theorem OwnO.down {q q' : Nat} {w : World} {v : Value} {o : Ob} (h : OwnO q w v o) (hq : q' ≤ q) : OwnO q' w v o := by
  obtain ⟨a, b, rfl, h1, h2⟩ := h
  exact ⟨a, b, rfl, own_down h1 hq, own_down h2 hq⟩
/-- An object that may be, or none. -/
def OkZ (o : Ob) : Prop := o = zeroO ∨ (okO o = true ∧ ByL o.b)
theorem OwnO.obj {q : Nat} {w : World} {v : Value} {o : Ob} (h : OwnO q w v o) (hz : OkZ o) : ObjAt w v o := by
  obtain ⟨a, b, rfl, h1, h2⟩ := h
  rcases hz with rfl | ⟨hk, hy⟩
  · exact ⟨a, b, rfl, .own h1 (fun _ h => by cases h), .own h2 (fun _ h => by cases h), by constructor <;> decide, by constructor <;> decide⟩
  · obtain ⟨g1, g2, g3⟩ := ok_in hk
    exact ⟨a, b, rfl, .own h1 g3, .own h2 hy, g1, g2⟩
theorem okZ_short {o : Ob} (h : OkZ o) : o.w.length ≤ 1000 ∧ o.b.length ≤ 1000 := by
  rcases h with rfl | ⟨h, _⟩
  · exact ⟨Nat.zero_le _, Nat.zero_le _⟩
  · exact ok_short h
theorem objF_okZ {E : Mem} (h : GoodM E) (o : Int) : OkZ (objF E o) := by
  unfold objF
  cases he : at_ E (namV o) with
  | none => exact .inl rfl
  | some x => exact .inr (h _ _ he)
theorem ownO_zero (w : World) (q : Nat) : OwnO q w (.agg #[.int .i64 0, .int .i64 0, .slice none 0 0, .slice none 0 0]) zeroO :=
  ⟨_, _, rfl, World.ownsRow_nil _ _ _ _, World.ownsRow_nil _ _ _ _⟩
def ObjPost (x : Ob) (t : Int) (w : World) (e : Ending) (w' : World) : Prop := ∃ v, e = .returned (.tuple #[v, .int .i64 t]) ∧ OwnO w.heap.size w' v x ∧ Below w.heap.size w w'
set_option maxHeartbeats 1000000 in
theorem obj_any {w : World} {K : Nat → Prop} {m : Nat} {E : Mem} (h : MemB K w m E) (o : Int) (ho : In64 o) :
    Calls Try.prog 22 #[.pointer (some ⟨m, 0, none⟩), .int .i64 o] w (ObjPost (objF E o) (errF E o) w) := by
  obtain ⟨r, nv, L, h, rfl⟩ := h
  have hi : W64 (namV o) := w64_of (namV_in o).1 (namV_in o).2
  cases he : at_ L (namV o) with
  | none =>
    have h1 : objF (mapO En.o L) o = zeroO := by unfold objF; rw [at_map, he]; rfl
    have h2 : errF (mapO En.o L) o = 4 := by unfold errF; rw [isSome_map, he]; rfl
    rw [h1, h2]
    have HF : Hid (∀ w1, Below w.heap.size w w1 → Calls Try.prog 48 #[.pointer (some ⟨m, 0, none⟩), .int .i64 o] w1 fun e w2 => e = .returned (.tuple #[.int .i64 0, .int .i64 4]) ∧ Below w1.heap.size w1 w2) := fun w1 hb => (find_raw (h.fresh hb) o ho).mono fun e w2 ⟨he', hb⟩ => by
      unfold idF errF at he'
      rw [isSome_map, he] at he'
      exact ⟨he', hb⟩
    clear h h1 h2 he hi
    go_enter Try.func22, Try.ntmps22
    go_wp2_with (go_at_call 48; refine (HF.out _ (below_new w _)).mono ?_; rintro e w1 ⟨rfl, hb⟩; have B1 := Lib.hid ((box_new w _ _ _ _).next hb); have K1 := Lib.hid ((below_new w _).trans (hb.mono (by simp))); obtain ⟨⟨p0, p1, p2, p3⟩, pf, _⟩ := B1.out)
    refine bodyPost_ret (res_box2 rfl rfl (B1.out.put _ _ _ _)) rfl ?_
    exact ⟨_, rfl, ownO_zero _ _, put_below K1.out (Nat.le_refl _)⟩
  | some e =>
    have h1 : objF (mapO En.o L) o = e.o := by unfold objF; rw [at_map, he]; rfl
    have h2 : errF (mapO En.o L) o = 0 := by unfold errF; rw [isSome_map, he]; rfl
    rw [h1, h2]
    obtain ⟨a1, n1, c1, a2, n2, c2, hv⟩ := (h.rows _ e he).form
    have HF : Hid (∀ w1, Below w.heap.size w w1 → Calls Try.prog 48 #[.pointer (some ⟨m, 0, none⟩), .int .i64 o] w1 fun e w2 => e = .returned (.tuple #[.int .i64 (namV o), .int .i64 0]) ∧ Below w1.heap.size w1 w2) := fun w1 hb => (find_raw (h.fresh hb) o ho).mono fun e w2 ⟨he', hb⟩ => by
      unfold idF errF at he'
      rw [isSome_map, he] at he'
      exact ⟨he', hb⟩
    have HL : Hid (∀ w1, Below w.heap.size w w1 → (Instr.lookup 73 (.map r) (.int .i64 (namV o)) false).run Try.prog w1 = .ok (.agg #[.int .i64 e.o.c, .int .i64 e.o.k, .slice a1 n1 c1, .slice a2 n2 c2]) w1 ∧ w1.cell? ⟨m, 1, none⟩ = some (.map r)) := fun w1 hb => by
      have h' := h.fresh hb
      have h2 := h'.mp.look1 (namV o) hi
      simp only [he, Option.map_some, Option.getD_some, hv] at h2
      exact ⟨h2, h'.c1⟩
    have HC : Hid (∀ w1, Below w.heap.size w w1 → Calls Try.prog 49 #[.agg #[.int .i64 e.o.c, .int .i64 e.o.k, .slice a1 n1 c1, .slice a2 n2 c2]] w1 fun en w2 => ∃ a3 n3 c3 a4 n4 c4, en = .returned (.agg #[.int .i64 e.o.c, .int .i64 e.o.k, .slice a3 n3 c3, .slice a4 n4 c4]) ∧ Hid (OwnO w1.heap.size w2 (.agg #[.int .i64 e.o.c, .int .i64 e.o.k, .slice a3 n3 c3, .slice a4 n4 c4]) e.o) ∧ Below w1.heap.size w1 w2) := fun w1 hb => by
      have h' := ((h.fresh hb).rows _ e he)
      have h3 := h'.obj
      rw [hv] at h3
      have hs := ok_short h'.ok
      refine (copyO_any _ e.o w1 h3 ⟨by omega, by omega⟩).mono ?_
      rintro en w2 ⟨wv, bv, rfl, g1, g2, g3⟩
      obtain ⟨a3, c3, rfl⟩ := own_form g1
      obtain ⟨a4, c4, rfl⟩ := own_form g2
      exact ⟨_, _, _, _, _, _, rfl, ⟨_, _, rfl, g1, g2⟩, g3⟩
    clear h he hv hi h1 h2
    obtain ⟨⟨c, k, ws, bs⟩, rv⟩ := e
    generalize namV o = id at *
    simp only at *
    go_enter Try.func22, Try.ntmps22
    go_wp2_with (first | (go_at_call 48; refine (HF.out _ (below_new w _)).mono ?_; rintro e w1 ⟨rfl, hb⟩; have B1 := Lib.hid ((box_new w _ _ _ _).next hb); have K1 := Lib.hid ((below_new w _).trans (hb.mono (by simp))); obtain ⟨⟨p0, p1, p2, p3⟩, pf, _⟩ := B1.out; obtain ⟨l1, l2⟩ := HL.out _ K1.out) | (go_at_call 49; refine (HC.out _ K1.out).mono ?_; rintro e w2 ⟨a3, n3, c3, a4, n4, c4, rfl, O2, hb2⟩; have C2 := Lib.hid (B1.out.next hb2); have K2 := Lib.hid (K1.out.trans (hb2.mono K1.out.size)); obtain ⟨⟨s0, s1, s2, s3⟩, sf, _⟩ := C2.out))
    refine bodyPost_ret (res_box2 rfl rfl (C2.out.put _ _ _ _)) rfl ?_
    refine ⟨_, rfl, ?_, put_below K2.out (Nat.le_refl _)⟩
    obtain ⟨wv, bv, hv, g1, g2⟩ := O2.out
    have hq : w.heap.size + 1 ≤ w1.heap.size := by have := B1.out.2.2; omega
    exact ⟨wv, bv, hv, own_down (own_set4 (own_down g1 hq) (by omega)) (by omega), own_down (own_set4 (own_down g2 hq) (by omega)) (by omega)⟩
theorem made_any {w : World} {K : Nat → Prop} {m : Nat} {E : Mem} (h : MemB K w m E) :
    Calls Try.prog 18 #[.pointer (some ⟨m, 0, none⟩)] w fun e w' => e = .returned (.int .i64 (E.length : Nat)) ∧ w = w' := by
  obtain ⟨r, nv, L, h, rfl⟩ := h
  rw [mapO_len]
  have q := h.c0
  clear h
  generalize L.length = n at *
  go_enter Try.func18, Try.ntmps18
  go_wp2
  go_ret
  exact ⟨rfl, rfl⟩
end Go.Proofs.Ytmaeoefimkppoaa.Fl
