/- Parts of the walk of the law WideSame. -/
import Derived.Test.YtbkojjbigilclaaSpo
import Derived.Test.YtbkojjbigilclaaLawW
namespace Go.Proofs.Ytbkojjbigilclaa
open Go.ChangeShapes Go.WideShapes Go.ChangeAt Go.RowKit
set_option maxRecDepth 1000000

theorem sameO_comm (a b : Ob) : sameO b a = sameO a b := by
  cases h : sameO a b with
  | true => rw [(sameO_iff a b).1 h, sameO_self]
  | false =>
    cases h' : sameO b a with
    | false => rfl
    | true => rw [(sameO_iff b a).1 h', sameO_self] at h; cases h
theorem enc_inj {a b : Ob} (ha : okO a = true) (hb : okO b = true) : decide (encO a = encO b) = sameO a b := by
  by_cases h : a = b
  · subst h; simp [sameO_self]
  · have h1 : sameO a b = false := by
      cases h' : sameO a b with
      | false => rfl
      | true => exact absurd ((sameO_iff a b).1 h') h
    rw [h1]
    refine decide_eq_false fun e => h ?_
    rw [← (dec_enc ha).2, e, (dec_enc hb).2]
/-- The bytes of an object, or none. -/
def encG (o : Ob) : List Int := if okO o = true then encO o else []
def EncG (xs : List Int) (t : Int) (w : World) (e : Ending) (w' : World) : Prop :=
  ∃ a c, e = .returned (.tuple #[.slice a xs.length c, .int .i64 t]) ∧ w'.ownsRow w.heap.size 5 1 (.slice a xs.length c) xs.length (xs.map (Value.int .u8)) ∧ Below w.heap.size w w'
theorem encode_g (v : Value) (o : Ob) (w : World) (h : ObjAt w v o) : Calls Try.prog 13 #[v] w (EncG (encG o) (chk o) w) := by
  cases hok : okO o with
  | true =>
    rw [chk_is hok]
    refine (encode_yes v o w h hok).mono fun _ _ ⟨v, he, ho, hb⟩ => ?_
    have e1 : encG o = encO o := by simp [encG, hok]
    rw [e1]
    obtain ⟨a, c, rfl, _⟩ := own_room ho
    exact ⟨a, c, he, ho, hb⟩
  | false =>
    rw [chk_not hok]
    refine (encode_not v o w h hok).mono fun _ _ ⟨he, hb⟩ => ?_
    have e1 : encG o = [] := by simp [encG, hok]
    rw [e1]
    exact ⟨none, 0, he, World.ownsRow_nil _ _ _ _, hb⟩
theorem encG_byL {o : Ob} (h : ByL o.b) : ByL (encG o) := by
  unfold encG
  split
  · exact encO_byL h
  · intro n hn; simp at hn

/-- The boxes of both arguments, and that nothing older has changed. -/
def Sm (w : World) (A B : Int × Int × Value × Value) (w' : World) : Prop :=
  Box w.heap.size (.int .i64 A.1) (.int .i64 A.2.1) A.2.2.1 A.2.2.2 w' ∧ Box (w.heap.size + 1) (.int .i64 B.1) (.int .i64 B.2.1) B.2.2.1 B.2.2.2 w' ∧ Below w.heap.size w w'
theorem Sm.kept {w w' w'' : World} {A B : Int × Int × Value × Value} (h : Sm w A B w') (hb : Below w'.heap.size w' w'') : Sm w A B w'' := ⟨h.1.next hb, h.2.1.next hb, h.2.2.trans (hb.mono h.2.2.size)⟩
theorem Sm.only {F : Nat → Prop} {w w' w'' : World} {A B : Int × Int × Value × Value} (h : Sm w A B w') (o : Only F w' w'') (hF : ∀ g, F g → w.heap.size + 2 ≤ g) : Sm w A B w'' :=
  ⟨h.1.only o fun e => by have := hF _ e; omega, h.2.1.only o fun e => by have := hF _ e; omega, h.2.2.trans (o.below (fun i hi e => by have := hF _ e; omega) h.2.2.size)⟩
theorem Sm.start (w : World) (A B : Int × Int × Value × Value) : Sm w A B ((w.alloc (.cells #[.int .i64 A.1, .int .i64 A.2.1, A.2.2.1, A.2.2.2] 25)).alloc (.cells #[.int .i64 B.1, .int .i64 B.2.1, B.2.2.1, B.2.2.2] 25)) :=
  ⟨(two_boxes w _ _ _ _ _ _ _ _).1, (two_boxes w _ _ _ _ _ _ _ _).2, bel2 w _ _⟩

theorem own_some {w : World} {base n c : Nat} {a : Option Addr} {e : TypeId} {xs : List Value} (h : w.ownsRow base e 1 (.slice a n c) n xs) (hn : 0 < n) : ∃ g, a = some ⟨g, 0, none⟩ := by
  rcases h.2 with ⟨_, h0⟩ | ⟨g, cap, cur, he, _⟩
  · omega
  · injection he with e1
    exact ⟨g, e1⟩
/-- Numbers of one's own that may be written over. -/
def Wr (v : Value) (n : Nat) (w : World) : Prop := ∀ g, v.ownBlock = some g → (∀ j, j < n → ∃ z, w.cell? ⟨g, j, none⟩ = some (.int .i64 z)) ∧ ∀ j, w.frozen? ⟨g, j, none⟩ = false
theorem Wr.own {w : World} {base : Nat} {v : Value} {xs : List Int} (h : w.ownsRow base 3 1 v xs.length (xs.map (Value.int .i64))) : Wr v xs.length w := by
  intro g hg
  rcases h.2 with ⟨rfl, _⟩ | ⟨g', cap, cur, rfl, _, h3, _⟩
  · simp [Value.ownBlock] at hg
  simp only [Value.ownBlock, Option.some.injEq] at hg
  subst hg
  refine ⟨fun j hj => ⟨xs.getD j 0, ?_⟩, fun j => ?_⟩
  · have := h.cells (g := g') rfl j (.int .i64 (xs.getD j 0)) (by rw [List.getElem?_map, List.getElem?_eq_getElem hj, List.getD, List.getElem?_eq_getElem hj]; rfl)
    rwa [add_plain, Nat.zero_add] at this
  · unfold World.frozen?
    simp only [h3]
    simp
theorem Wr.set {w : World} {g n c k : Nat} {u : Int} (h : Wr (.slice (some ⟨g, 0, none⟩) n c) n w) : Wr (.slice (some ⟨g, 0, none⟩) n c) n (w.setCell ⟨g, k, none⟩ (.int .i64 u)) := by
  intro g' hg
  simp only [Value.ownBlock, Option.some.injEq] at hg
  subst hg
  obtain ⟨h1, h2⟩ := h g rfl
  refine ⟨fun j hj => ?_, fun j => by rw [World.frozen?_setCell]; exact h2 j⟩
  by_cases e : j = k
  · subst e
    obtain ⟨z, hz⟩ := h1 j hj
    exact ⟨u, World.cell?_setCell_same _ _ _ hz⟩
  · obtain ⟨z, hz⟩ := h1 j hj
    exact ⟨z, by rw [World.cell?_setCell_other _ _ _ _ (by intro e; injection e; omega)]; exact hz⟩
end Go.Proofs.Ytbkojjbigilclaa
