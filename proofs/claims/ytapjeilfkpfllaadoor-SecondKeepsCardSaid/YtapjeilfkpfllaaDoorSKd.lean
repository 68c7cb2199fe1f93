/- All dropped together; twice named. -/
import Derived.Test.YtapjeilfkpfllaaDoorSKi
namespace Go.Proofs.YtapjeilfkpfllaaDoor
set_option maxRecDepth 1000000
open Go.ChangeShapes Go.WideShapes Go.ChangeAt Go.RowKit
open Wd (Ob okO encO refsO ObjAt In64 I64)
theorem dropE_all (L : List Ent) : dropE L (idsE L) = [] := by
  refine List.filter_eq_nil_iff.2 fun e he => ?_
  have h : (e.id : Int) ∈ idsE L := List.mem_map.2 ⟨e, he, rfl⟩
  simp [h]
theorem drop_every (c : Sc) (n u m : Nat) (L : List Ent) (v : Value) (w : World) (h : SecAt w c n u m L) (hv : Ints (fun b => ¬ c.F b) w v (idsE L)) (hl : (idsE L).length ≤ 20000) :
    Calls Tryd.prog 13 #[.pointer (some ⟨c.q, 0, none⟩), v] w (DropPost c n u m [] 0 w) := by
  have := drop_all c n u m L v (idsE L) w h hv (fun _ h => h) (ids_w64 h.good h.few) (by omega) ⟨fun x hx => hasE_iff.2 hx, ids_nodup h.good⟩
  rw [dropE_all] at this
  exact this
theorem used_none (c : Sc) (n u m : Nat) (w : World) (h : SecAt w c n u m []) : Calls Tryd.prog 19 #[.pointer (some ⟨c.q, 0, none⟩)] w (Tells (.int .i64 0) c n u m [] w) := by
  have := used_any c n u m [] w h
  have e : (total (rowsE []) : Int) = 0 := by decide
  rw [e] at this
  exact this
theorem ids_none (c : Sc) (n u m : Nat) (w : World) (h : SecAt w c n u m []) : Calls Tryd.prog 14 #[.pointer (some ⟨c.q, 0, none⟩)] w fun e w' => ∃ a cp, e = .returned (.slice a 0 cp) ∧ SecAt w' c n u m [] ∧ Below w.heap.size w w' := by
  refine (ids_any c n u m [] w h).mono ?_
  rintro e w' ⟨v, rfl, own, s, b⟩
  obtain ⟨a, cp, rfl, _⟩ := Wd.own_room own
  exact ⟨a, cp, rfl, s, b⟩
end Go.Proofs.YtapjeilfkpfllaaDoor
