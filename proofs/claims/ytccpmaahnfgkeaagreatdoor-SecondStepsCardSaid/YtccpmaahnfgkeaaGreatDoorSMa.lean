/- What the function Make of package second does with whatever object; where there is room. No condition but those that each statement names. -/
import Derived.Test.YtccpmaahnfgkeaaGreatDoorSKn
namespace Go.Proofs.YtccpmaahnfgkeaaGreatDoor
set_option maxRecDepth 1000000
open Go.ChangeShapes Go.WideShapes Go.ChangeAt Go.RowKit
open Wd (Ob okO encO refsO ObjAt In64 I64)

theorem MakePost.mono {c : Sc} {n u u' m : Nat} {L : List Ent} {id t : Int} {w w' : World} {e : Ending} (h : MakePost c n u m L id t w e w') (hu : u ≤ u') : MakePost c n u' m L id t w e w' := ⟨h.1, h.2.1.mono hu, h.2.2⟩
theorem make_any (c : Sc) (n u m : Nat) (L : List Ent) (v : Value) (o : Ob) (w : World) (h : SecAt w c n u m L) (ho : ObjAt w v o) (hu : u ≤ 100000000000000) :
    ∃ id t m' L', MakeIs n m L o id t m' L' ∧ Calls Tryz.prog 7 #[.pointer (some ⟨c.q, 0, none⟩), v] w (MakePost c n (u + 1) m' L' id t w) := by
  cases hok : okO o with
  | false => exact ⟨0, 2, m, L, .inl ⟨hok, rfl, rfl, rfl, rfl⟩, (make_bad c n u m L v o w h ho hok).mono fun _ _ h => h.mono (Nat.le_succ u)⟩
  | true =>
    rcases Nat.lt_or_ge m 1048576 with hm | hm
    · obtain ⟨a, ok, hF⟩ := first_ex (tk (rowsE L)) n (szO o)
      cases ok with
      | true => exact ⟨_, 0, _, _, .inr (.inr ⟨hok, hm, rfl, rfl, rfl, a, hF, rfl⟩), make_yes c n u m L v o a w h ho hok hm hu hF⟩
      | false => exact ⟨0, 3, m, L, .inr (.inl ⟨hok, rfl, rfl, rfl, rfl, .inr ⟨a, hF⟩⟩), (make_full c n u m L v o a w h ho hok hm hF).mono fun _ _ h => h.mono (Nat.le_succ u)⟩
    · exact ⟨0, 3, m, L, .inr (.inl ⟨hok, rfl, rfl, rfl, rfl, .inl hm⟩), (make_old c n u m L v o w h ho hok hm).mono fun _ _ h => h.mono (Nat.le_succ u)⟩
/-- The object is none just where no number is told. -/
theorem MakeIs.t_eq {n m : Nat} {L : List Ent} {o : Ob} {id t : Int} {m' : Nat} {L' : List Ent} (h : MakeIs n m L o id t m' L') : t = 0 ∨ t = 2 ∨ t = 3 := by
  rcases h with ⟨_, _, h, _⟩ | ⟨_, _, h, _⟩ | ⟨_, _, _, h, _⟩ <;> simp [h]
theorem MakeIs.bad {n m : Nat} {L : List Ent} {o : Ob} {id t : Int} {m' : Nat} {L' : List Ent} (h : MakeIs n m L o id t m' L') (ho : okO o = false) : id = 0 ∧ t = 2 ∧ m' = m ∧ L' = L := by
  rcases h with ⟨_, h1, h2, h3, h4⟩ | ⟨h, _⟩ | ⟨h, _⟩
  · exact ⟨h1, h2, h3, h4⟩
  · rw [ho] at h; cases h
  · rw [ho] at h; cases h
theorem MakeIs.room {n m : Nat} {L : List Ent} {o : Ob} {id t : Int} {m' : Nat} {L' : List Ent} (h : MakeIs n m L o id t m' L') (ho : okO o = true) (hm : m < 1048576) {a : Nat} (hF : FirstIs (tk (rowsE L)) n (szO o) a true) :
    id = (m : Int) + 1 ∧ t = 0 ∧ m' = m + 1 ∧ L' = L ++ [⟨m + 1, o, a⟩] := by
  rcases h with ⟨h, _⟩ | ⟨_, _, _, _, _, h⟩ | ⟨_, _, h1, h2, h3, a', h4, h5⟩
  · rw [ho] at h; cases h
  · rcases h with h | ⟨a', h⟩
    · omega
    · have := (firstIs_eq hF h).2; cases this
  · obtain ⟨rfl, _⟩ := firstIs_eq hF h4
    exact ⟨h1, h2, h3, h5⟩
theorem szO_le {o : Ob} (h : okO o = true) : 1 ≤ szO o ∧ szO o ≤ 63 := by
  have := (Wd.enc_le h).2
  unfold szO secs
  omega
theorem short_of {o : Ob} (h : okO o = true) : Wd.Short o := by
  obtain ⟨_, ⟨_, hb, hl, _⟩ | ⟨_, hl, hb⟩⟩ := (Wd.okO_iff o).1 h
  · exact ⟨by omega, by rw [hb]; simp⟩
  · exact ⟨by rw [hl]; simp, by omega⟩
theorem ObjIn.form {N : Nat → Prop} {w : World} {v : Value} {o : Ob} (h : ObjIn N w v o) : ∃ a1 c1 a2 c2, v = .agg #[.int .i64 o.c, .int .i64 o.k, .slice a1 o.w.length c1, .slice a2 o.b.length c2] := by
  obtain ⟨_, _, rfl, ⟨a1, c1, rfl, _⟩, _, ⟨a2, c2, rfl, _⟩, _⟩ := h
  exact ⟨a1, c1, a2, c2, by rw [List.length_map, List.length_map]⟩
/-- There is room where some place is free. -/
theorem room_ex {S : Nat → Bool} {n q b : Nat} (h1 : b + q ≤ n) (h2 : ∀ k, k < q → S (b + k) = false) : ∃ a, FirstIs S n q a true := by
  obtain ⟨a, ok, h⟩ := first_ex S n q
  cases ok with
  | true => exact ⟨a, h⟩
  | false =>
    rcases h with ⟨h, _⟩ | ⟨_, _, h⟩
    · cases h
    · obtain ⟨k, hk, e⟩ := h b h1
      rw [h2 k hk] at e; cases e
end Go.Proofs.YtccpmaahnfgkeaaGreatDoor
