/- What find and open of a memory return; Ref of package flat. -/
import Derived.Test.YtmaeoefimkppoaaFBl
namespace Go.Proofs.Ytmaeoefimkppoaa.Fl
set_option maxRecDepth 1000000
open Go.ChangeShapes Go.WideShapes Go.ChangeAt Go.RowKit
open Go.Proofs.Ytmaeoefimkppoaa.Wd

theorem own_form {w : World} {base n : Nat} {e : TypeId} {v : Value} {xs : List Value} (h : w.ownsRow base e 1 v n xs) : ∃ a c, v = .slice a n c := by
  obtain ⟨a, c, h, _⟩ := own_room h
  exact ⟨a, c, h⟩
theorem En.Row.form {w : World} {e : En} (h : e.Row w) : ∃ a1 n1 c1 a2 n2 c2, e.val = .agg #[.int .i64 e.o.c, .int .i64 e.o.k, .slice a1 n1 c1, .slice a2 n2 c2] := by
  unfold En.val
  rcases h.row with ⟨hk, hr⟩ | ⟨hk, hr⟩
  · rw [if_pos hk]
    obtain ⟨a, c, hv⟩ := own_form hr
    rw [hv]
    exact ⟨_, _, _, _, _, _, rfl⟩
  · rw [if_neg (by omega)]
    obtain ⟨a, c, hv⟩ := own_form hr
    rw [hv]
    exact ⟨_, _, _, _, _, _, rfl⟩
section
variable {w : World} {K : Nat → Prop} {m : Nat} {r : Option Nat} {nv : Value} {L : List (Option En)}
theorem MemR.look (h : MemR w K m r nv L) (i : Int) (hi : W64 i) : ∃ c k a1 n1 c1 a2 n2 c2, ((at_ L i).map En.val).getD zObj = .agg #[.int .i64 c, .int .i64 k, .slice a1 n1 c1, .slice a2 n2 c2] ∧
    (Instr.lookup 73 (.map r) (.int .i64 i) true).run Try.prog w = .ok (.tuple #[.agg #[.int .i64 c, .int .i64 k, .slice a1 n1 c1, .slice a2 n2 c2], .bool (at_ L i).isSome]) w ∧
    (Instr.lookup 73 (.map r) (.int .i64 i) false).run Try.prog w = .ok (.agg #[.int .i64 c, .int .i64 k, .slice a1 n1 c1, .slice a2 n2 c2]) w := by
  have h1 := h.mp.look i hi
  have h2 := h.mp.look1 i hi
  have h3 : ((at_ L i).map En.val).isSome = (at_ L i).isSome := by cases at_ L i <;> rfl
  rw [h3] at h1
  cases he : at_ L i with
  | none =>
    rw [he] at h1 h2
    exact ⟨0, 0, none, 0, 0, none, 0, 0, rfl, h1, h2⟩
  | some e =>
    rw [he] at h1 h2
    obtain ⟨a1, n1, c1, a2, n2, c2, hv⟩ := (h.rows i e he).form
    simp only [Option.map_some, Option.getD_some] at h1 h2 ⊢
    rw [hv] at h1 h2 ⊢
    exact ⟨_, _, _, _, _, _, _, _, rfl, h1, h2⟩
end
theorem isSome_map {α β : Type} (f : α → β) (L : List (Option α)) (i : Int) : (at_ (mapO f L) i).isSome = (at_ L i).isSome := by rw [at_map]; cases at_ L i <;> rfl
def FindPost (E : Mem) (o : Int) (w : World) (e : Ending) (w' : World) : Prop := e = .returned (.tuple #[.int .i64 (idF E o), .int .i64 (errF E o)]) ∧ Below w.heap.size w w'
set_option maxHeartbeats 400000 in
theorem find_raw {w : World} {K : Nat → Prop} {m : Nat} {r : Option Nat} {nv : Value} {L : List (Option En)} (h : MemR w K m r nv L) (o : Int) (ho : In64 o) :
    Calls Try.prog 48 #[.pointer (some ⟨m, 0, none⟩), .int .i64 o] w (FindPost (mapO En.o L) o w) := by
  have hi : W64 (namV o) := w64_of (namV_in o).1 (namV_in o).2
  obtain ⟨c, k, a1, n1, c1, a2, n2, c2, _, hl, _⟩ := h.look (namV o) hi
  have HN : Hid (∀ w, Calls Try.prog 61 #[.int .i64 o] w fun e w' => e = .returned (.tuple #[.int .i64 (namV o), .bool (namB o)]) ∧ w = w') := Lib.hid fun w => named_any o w ho.1 ho.2
  have hE : (at_ (mapO En.o L) (namV o)).isSome = (at_ L (namV o)).isSome := isSome_map _ _ _
  have HP : Hid (∀ i t, (i = if (at_ L (namV o)).isSome = true then namV o else 0) → (t = if (at_ L (namV o)).isSome = true then (0 : Int) else 4) → ∀ w', Below w.heap.size w w' → FindPost (mapO En.o L) o w (.returned (.tuple #[.int .i64 i, .int .i64 t])) w') := fun i t h1 h2 w' hb => by
    unfold FindPost idF errF
    rw [hE, ← h1, ← h2]
    exact ⟨rfl, hb⟩
  have q1 := h.c1
  clear h hE hi
  cases hs : (at_ L (namV o)).isSome with
  | true =>
    rw [hs] at hl HP
    clear hs
    generalize namV o = i at *
    generalize namB o = b at *
    go_enter Try.func48, Try.ntmps48
    go_wp2_with (go_at_call 61; refine (HN.out _).mono ?_; rintro e w' ⟨rfl, rfl⟩)
    go_ret2
    exact HP.out _ _ rfl rfl _ ((Below.refl _ _).alloc (Nat.le_refl _) _)
  | false =>
    rw [hs] at hl HP
    clear hs
    generalize namV o = i at *
    generalize namB o = b at *
    go_enter Try.func48, Try.ntmps48
    go_wp2_with (go_at_call 61; refine (HN.out _).mono ?_; rintro e w' ⟨rfl, rfl⟩)
    go_ret2
    exact HP.out _ _ rfl rfl _ ((Below.refl _ _).alloc (Nat.le_refl _) _)
end Go.Proofs.Ytmaeoefimkppoaa.Fl
