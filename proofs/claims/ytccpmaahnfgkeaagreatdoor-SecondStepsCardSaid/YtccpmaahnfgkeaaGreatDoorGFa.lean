/- The chapter's space of objects in memory: rows with their numbers, objects and places; what Find, Ids and in of the chapter tell. -/
import Derived.Test.YtccpmaahnfgkeaaGreatDoorRFc
import Derived.Test.YtccpmaahnfgkeaaGreatDoorSLs
import Derived.Test.YtccpmaahnfgkeaaGreatDoorSDo
namespace Go.Proofs.YtccpmaahnfgkeaaGreatDoor
set_option maxRecDepth 1000000
open Go.ChangeShapes Go.WideShapes Go.ChangeAt Go.RowKit
open Wd (Ob okO encO refsO ObjAt In64 I64)

/-- An entry, and the slice values of its object. -/
abbrev RE := Ent × Value × Value
def objV (p : RE) : Value := .agg #[.int .i64 p.1.o.c, .int .i64 p.1.o.k, p.2.1, p.2.2]
def cells8 (p : RE) : List Value := [.int .i64 p.1.id, .int .i64 p.1.o.c, .int .i64 p.1.o.k, p.2.1, p.2.2, .int .i64 p.1.f, .int .i64 (len (erow p.1)), .int .i64 (encO p.1.o).length]
def flat8 (L : List RE) : List Value := L.flatMap cells8
theorem flat8_cons (p : RE) (L : List RE) : flat8 (p :: L) = cells8 p ++ flat8 L := by simp [flat8]
theorem flat8_append (L M : List RE) : flat8 (L ++ M) = flat8 L ++ flat8 M := by simp [flat8]
theorem flat8_len (L : List RE) : (flat8 L).length = L.length * 8 := by
  induction L with
  | nil => rfl
  | cons x xs ih => rw [flat8_cons]; simp [cells8, ih]; omega
theorem flat8_at : ∀ (L : List RE) (i : Nat) (p : RE), L[i]? = some p → ∀ j, j < 8 → (flat8 L)[i * 8 + j]? = (cells8 p)[j]?
  | [], i, p, h, _, _ => by simp at h
  | y :: L, 0, p, h, j, hj => by
    simp at h
    subst h
    rw [flat8_cons, List.getElem?_append_left (by simp [cells8]; omega)]
    simp
  | y :: L, i + 1, p, h, j, hj => by
    have ih := flat8_at L i p (by simpa using h) j hj
    rw [flat8_cons, List.getElem?_append_right (by simp [cells8]; omega), ← ih]
    congr 1
    simp [cells8]
    omega
def entsOf (L : List RE) : List Ent := L.map (·.1)
theorem ents_append (L M : List RE) : entsOf (L ++ M) = entsOf L ++ entsOf M := by simp [entsOf]
theorem ents_len (L : List RE) : (entsOf L).length = L.length := List.length_map _

/-- The slice value v holds the entries L; all of it lies in blocks of the kind N. -/
def SpV (N : Nat → Prop) (w : World) (v : Value) (L : List RE) : Prop :=
  ∃ a c, v = .slice a L.length c ∧ L.length ≤ c ∧ (∀ p ∈ L, ObjIn N w (objV p) p.1.o) ∧
    (L = [] ∨ ∃ b off, a = some ⟨b, off, none⟩ ∧ N b ∧ ∀ j u, (flat8 L)[j]? = some u → w.cell? ⟨b, off + j, none⟩ = some u)
section
variable {N M F : Nat → Prop} {w w' : World} {v : Value} {L : List RE}
theorem SpV.only (h : SpV N w v L) (o : Only F w w') (hF : ∀ b, N b → ¬ F b) : SpV N w' v L := by
  obtain ⟨a, c, hv, hc, hb, h⟩ := h
  refine ⟨a, c, hv, hc, fun p hp => (hb p hp).only o hF, h.imp id ?_⟩
  rintro ⟨b, off, ha, hN, h⟩
  exact ⟨b, off, ha, hN, fun j u hu => (o.cell (p := ⟨b, off + j, none⟩) (World.block_lt_of_cell? _ _ (h j u hu)) (hF b hN)).trans (h j u hu)⟩
theorem SpV.fresh (h : SpV N w v L) (o : Below w.heap.size w w') : SpV N w' v L := h.only (F := fun _ => False) (Only.of_below o) (fun _ _ h => h)
theorem SpV.kind (h : SpV N w v L) (hM : ∀ b, b < w.heap.size → N b → M b) : SpV M w v L := by
  obtain ⟨a, c, hv, hc, hb, h⟩ := h
  by_cases hL : L = []
  · exact ⟨a, c, hv, hc, fun p hp => (by rw [hL] at hp; cases hp), .inl hL⟩
  · obtain ⟨b, off, ha, hN, h⟩ := h.resolve_left hL
    refine ⟨a, c, hv, hc, fun p hp => (hb p hp).kind hM, .inr ⟨b, off, ha, hM b ?_ hN, h⟩⟩
    obtain ⟨p, t, rfl⟩ := List.exists_cons_of_ne_nil hL
    exact World.block_lt_of_cell? _ _ (h 0 (.int .i64 p.1.id) (by rw [flat8_cons]; rfl))
theorem SpV.form (h : SpV N w v L) : ∃ a c, v = .slice a L.length c := by
  obtain ⟨a, c, hv, _⟩ := h
  exact ⟨a, c, hv⟩
theorem spv_nil (N : Nat → Prop) (w : World) : SpV N w (.slice none 0 0) [] := ⟨none, 0, rfl, Nat.le_refl _, fun p hp => (by cases hp), .inl rfl⟩
structure RowAt (N : Nat → Prop) (w : World) (b off i : Nat) (p : RE) : Prop where
  c0 : w.cell? ⟨b, off + i * 8, none⟩ = some (.int .i64 p.1.id)
  c1 : w.cell? ⟨b, off + i * 8 + 1, none⟩ = some (.int .i64 p.1.o.c)
  c2 : w.cell? ⟨b, off + i * 8 + 1 + 1, none⟩ = some (.int .i64 p.1.o.k)
  c3 : w.cell? ⟨b, off + i * 8 + 1 + 2, none⟩ = some p.2.1
  c4 : w.cell? ⟨b, off + i * 8 + 1 + 3, none⟩ = some p.2.2
  c5 : w.cell? ⟨b, off + i * 8 + 5, none⟩ = some (.int .i64 p.1.f)
  c6 : w.cell? ⟨b, off + i * 8 + 5 + 1, none⟩ = some (.int .i64 (len (erow p.1)))
  c7 : w.cell? ⟨b, off + i * 8 + 5 + 2, none⟩ = some (.int .i64 (encO p.1.o).length)
  ob : ObjIn N w (objV p) p.1.o
theorem SpV.at_ (h : SpV N w v L) (i : Nat) (hi : i < L.length) : ∃ b off c, v = .slice (some ⟨b, off, none⟩) L.length c ∧ N b ∧ RowAt N w b off i L[i] := by
  obtain ⟨a, c, hv, _, ho, h⟩ := h
  obtain ⟨b, off, rfl, hN, h⟩ := h.resolve_left (fun e => by subst e; simp at hi)
  have hg := flat8_at L i L[i] (List.getElem?_eq_getElem hi)
  have g := fun (j : Nat) (hj : j < 8) (u : Value) (hu : (cells8 L[i])[j]? = some u) => h (i * 8 + j) u ((hg j hj).trans hu)
  exact ⟨b, off, c, hv, hN, g 0 (by omega) _ rfl, g 1 (by omega) _ rfl, g 2 (by omega) _ rfl, g 3 (by omega) _ rfl, g 4 (by omega) _ rfl, g 5 (by omega) _ rfl, g 6 (by omega) _ rfl, g 7 (by omega) _ rfl, ho _ (List.getElem_mem hi)⟩
end

def FindP (L : List RE) (i : Int) (w : World) (e : Ending) (w' : World) : Prop :=
  ∃ k : Int, e = .returned (.int .i64 k) ∧ ((k = -1 ∧ hasE (entsOf L) i = false) ∨ ∃ (j : Nat) (h : j < L.length), k = j ∧ (L[j].1.id : Int) = i) ∧ Below w.heap.size w w'
theorem has_no {L : List RE} {i : Int} (h : ∀ j (hj : j < L.length), (L[j].1.id : Int) ≠ i) : hasE (entsOf L) i = false := by
  cases hh : hasE (entsOf L) i with
  | false => rfl
  | true =>
    rw [hasE_iff, idsE, entsOf, List.map_map] at hh
    obtain ⟨p, hp, he⟩ := List.mem_map.1 hh
    obtain ⟨j, hj, rfl⟩ := List.mem_iff_getElem.1 hp
    exact absurd he (h j hj)
theorem find6_any {N : Nat → Prop} (v : Value) (n m : Nat) (L : List RE) (i : Int) (w : World) (h : SpV N w v L) (hl : L.length ≤ 1000000) :
    Calls Tryz.prog 10 #[.agg #[v, .int .i64 n, .int .i64 m], .int .i64 i] w (FindP L i w) := by
  have BW : Below w.heap.size w (w.alloc (.cells #[v, .int .i64 n, .int .i64 m] 32)) := (Below.refl _ _).alloc (Nat.le_refl _) _
  have HV := Lib.hid (h.fresh BW)
  have HB := Lib.hid BW
  obtain ⟨a, c, rfl⟩ := h.form
  have hx : (w.alloc (.cells #[.slice a L.length c, .int .i64 n, .int .i64 m] 32)).cell? ⟨w.heap.size, 0, none⟩ = some (.slice a L.length c) := by rw [World.cell?_alloc_at _ _ _ _ rfl]; rfl
  obtain ⟨p, hp⟩ : ∃ p, w.heap.size = p := ⟨_, rfl⟩
  rw [hp] at hx
  have HP := Lib.hid hp
  clear h BW
  go_enter Tryz.func10, Tryz.ntmps10
  go_wp2
  clear hp
  generalize w.alloc (.cells #[.slice a L.length c, .int .i64 n, .int .i64 m] 32) = w0 at HV hx HB ⊢
  go_loop [5] (fun x => ∃ k : Nat, k ≤ L.length ∧ x = .int .i64 k ∧ Hid (∀ j (hj : j < L.length), j < k → (L[j].1.id : Int) ≠ i)) (fun x => L.length - (RowKit.intOf x).toNat)
  case atStart => exact ⟨0, Nat.zero_le _, rfl, Lib.hid (fun j _ hj => by omega)⟩
  case round =>
    obtain ⟨k, hk, rfl, HA⟩ := hrel
    by_cases hlt : k < L.length
    · obtain ⟨b, off, c', he, _, hr⟩ := HV.out.at_ k hlt
      injection he with e1 e2 e3
      subst e1 e3
      have h0 := hr.c0
      clear hr e2
      by_cases hx2 : (L[k].1.id : Int) = i
      · have HF : Hid (∃ (j : Nat) (h : j < L.length), (k : Int) = j ∧ (L[j].1.id : Int) = i) := ⟨k, hlt, rfl, hx2⟩
        rw [hx2] at h0
        clear hx2
        go_wp2
        go_ret
        exact ⟨_, rfl, .inr HF.out, by have := HB.out; exact this⟩
      · have HN : Hid (∀ j (hj : j < L.length), j < k + 1 → (L[j].1.id : Int) ≠ i) := Lib.hid (fun j hj hjk => if e : j = k then by subst e; exact hx2 else HA.out j hj (by omega))
        generalize (L[k].1.id : Int) = y at h0 hx2
        have hy : (y == i) = false := by simpa using hx2
        go_wp2
        go_round
        case rel => exact ⟨k + 1, by omega, by go_num, HN⟩
        case measure => simp [RowKit.intOf]; omega
    · have HF := Lib.hid (has_no (fun j hj => HA.out j hj (by omega)))
      go_wp2
      go_ret
      exact ⟨-1, rfl, .inl ⟨rfl, HF.out⟩, by have := HB.out; exact this⟩
end Go.Proofs.YtccpmaahnfgkeaaGreatDoor
